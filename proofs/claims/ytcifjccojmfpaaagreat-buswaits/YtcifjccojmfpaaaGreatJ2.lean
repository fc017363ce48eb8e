/-
  NdZ · NeA · NGo · NeS · NdH · NdO · NeO · NgR · NgN · NbW · NgT · NbA · NdX · NgS · NSt.
-/
import Derived.Test.YtcifjccojmfpaaaGreatJ0
import Derived.Test.YtcifjccojmfpaaaGreatJ1
import Derived.Deep.RegionHeld3
import Derived.RangeFuncBox
import Derived.RangeFuncNested
import Derived.RangeFuncLeaves
import Derived.Shelf.Abstract
import Derived.OwnWalkIn
import Derived.TacticsInMore
import Derived.LoopNIn
import Derived.LoopIn
import Derived.WalkMore
set_option maxRecDepth 100000
set_option maxHeartbeats 4000000
namespace Go.Proofs.YtcifjccojmfpaaaGreat
open Go.RowKit
set_option linter.unusedVariables false
set_option linter.unusedSimpArgs false
theorem place_c {w : World} {P : Nat → Prop} {n : NV} {N : NC} (h : NIs w P n N) (hok : ∀ F ∈ N.q, okC F) (hm : n.qm ≤ 1000) (z : Int) (hz : (if hasN N then (atN N : Int) else -1) = z) :
    Calls Tryz.prog 53 #[n.v] w fun e w' => e = .returned (.int .i64 z) ∧ Below w.heap.size w w' := by
  obtain ⟨qa, qm, qc, la, lm, lc, kk, ga, gm, gc⟩ := n
  have hq := h.q
  have Hek := Lib.hid (show kk = N.k from h.k)
  dsimp only at hq hm
  have Hok := Lib.hid hok
  have hl := hq.len
  by_cases hs : kk.s = 3
  · skip
    obtain rfl : -1 = z := by rw [← hz]; unfold hasN; rw [← Hek.out]; simp [hs]
    clear Hek
    obtain ⟨kt, kr, ks, kq⟩ := kk
    dsimp only at hs
    subst hs
    clear hz
    by_cases h0 : (0 : Int) < (qm : Int)
    · skip
      have d0 : decide ((0 : Int) < (qm : Int)) = true := by simpa using h0
      obtain ⟨w0, hw0⟩ : ∃ w0, (w.alloc (.cells #[.slice qa qm qc, .slice la lm lc, .int .i64 kt, .int .i64 kr, .int .i64 3, .int .i64 kq, .slice ga gm gc] 49)) = w0 := ⟨_, rfl⟩
      have hT0 : Below w.heap.size w w0 := by rw [← hw0]; exact below_alloc1 _ _
      have hn0 : w0.heap[w.heap.size]? = some (.cells #[.slice qa qm qc, .slice la lm lc, .int .i64 kt, .int .i64 kr, .int .i64 3, .int .i64 kq, .slice ga gm gc] 49) := by rw [← hw0]; exact World.alloc_heap_new _ _
      have hs0 : w0.heap.size = w.heap.size + 1 := by rw [← hw0]; simp
      have Hs0 := Lib.hid hs0
      clear hs0
      obtain ⟨nc0, nc1, nc2, nc3, nc4, nc5, nc6⟩ := cells7' hn0
      go_enter Tryz.func53, Tryz.ntmps53
      go_wp2_with fail
      clear nc0 nc1 nc2 nc3 nc4 nc5 nc6
      clear hw0
      have hZ0 := Below.refl w0.heap.size w0
      go_loop [3, 4] (fun a i => a = .int .i64 (-1) ∧ i = .int .i64 0) (fun _ i => 0)
      case atStart => exact ⟨rfl, rfl⟩
      case round =>
        obtain ⟨rfl, rfl⟩ := hrel
        obtain ⟨nc0, nc1, nc2, nc3, nc4, nc5, nc6⟩ := cells7' hn0
        go_wp2_with fail
        clear nc0 nc1 nc2 nc3 nc4 nc5 nc6
        go_ret
        exact ⟨rfl, hT0⟩
    have d0 : decide ((0 : Int) < (qm : Int)) = false := by simpa using h0
    obtain rfl : qm = 0 := by omega
    clear d0 h0
    obtain ⟨w0, hw0⟩ : ∃ w0, (w.alloc (.cells #[.slice qa 0 qc, .slice la lm lc, .int .i64 kt, .int .i64 kr, .int .i64 3, .int .i64 kq, .slice ga gm gc] 49)) = w0 := ⟨_, rfl⟩
    have hT0 : Below w.heap.size w w0 := by rw [← hw0]; exact below_alloc1 _ _
    have hn0 : w0.heap[w.heap.size]? = some (.cells #[.slice qa 0 qc, .slice la lm lc, .int .i64 kt, .int .i64 kr, .int .i64 3, .int .i64 kq, .slice ga gm gc] 49) := by rw [← hw0]; exact World.alloc_heap_new _ _
    have hs0 : w0.heap.size = w.heap.size + 1 := by rw [← hw0]; simp
    have Hs0 := Lib.hid hs0
    clear hs0
    obtain ⟨nc0, nc1, nc2, nc3, nc4, nc5, nc6⟩ := cells7' hn0
    go_enter Tryz.func53, Tryz.ntmps53
    go_wp2_with fail
    clear nc0 nc1 nc2 nc3 nc4 nc5 nc6
    clear hw0
    have hZ0 := Below.refl w0.heap.size w0
    go_loop [3, 4] (fun a i => a = .int .i64 (-1) ∧ i = .int .i64 0) (fun _ i => 0)
    case atStart => exact ⟨rfl, rfl⟩
    case round =>
      obtain ⟨rfl, rfl⟩ := hrel
      obtain ⟨nc0, nc1, nc2, nc3, nc4, nc5, nc6⟩ := cells7' hn0
      go_wp2_with fail
      clear nc0 nc1 nc2 nc3 nc4 nc5 nc6
      go_ret
      exact ⟨rfl, hT0⟩
  have hs2 : (kk.s != 3) = true := by simpa [bne] using hs
  have hs3 : (kk.s == 3) = false := by simpa using hs
  have hz2 : (if qm = 0 then -1 else (leastTo N.q qm : Int)) = z := by
    rw [← hz]; unfold hasN atN; rw [← Hek.out, hl]
    by_cases e0 : qm = 0
    · have : N.q = [] := List.eq_nil_of_length_eq_zero (hl.trans e0)
      simp [e0, this]
    · have : N.q ≠ [] := by intro e; rw [e] at hl; simp at hl; omega
      simp [e0, this, hs]
  have Hz := Lib.hid hz2
  clear hz hz2 hs
  obtain ⟨w0, hw0⟩ : ∃ w0, (w.alloc (.cells #[.slice qa qm qc, .slice la lm lc, .int .i64 kk.t, .int .i64 kk.r, .int .i64 kk.s, .int .i64 kk.q, .slice ga gm gc] 49)) = w0 := ⟨_, rfl⟩
  have hT0 : Below w.heap.size w w0 := by rw [← hw0]; exact below_alloc1 _ _
  have hn0 : w0.heap[w.heap.size]? = some (.cells #[.slice qa qm qc, .slice la lm lc, .int .i64 kk.t, .int .i64 kk.r, .int .i64 kk.s, .int .i64 kk.q, .slice ga gm gc] 49) := by rw [← hw0]; exact World.alloc_heap_new _ _
  have hs0 : w0.heap.size = w.heap.size + 1 := by rw [← hw0]; simp
  have Hs0 := Lib.hid hs0
  clear hs0
  obtain ⟨nc0, nc1, nc2, nc3, nc4, nc5, nc6⟩ := cells7' hn0
  go_enter Tryz.func53, Tryz.ntmps53
  go_wp2_with fail
  clear nc0 nc1 nc2 nc3 nc4 nc5 nc6
  clear hw0
  have hZ0 := Below.refl w0.heap.size w0
  go_loopw [3, 4] (fun a i wr => ∃ (k : Nat) (x : Int), k ≤ qm ∧ i = .int .i64 k ∧ a = .int .i64 x ∧ Hid (x = if k = 0 then -1 else (leastTo N.q k : Int)) ∧ wr.heap[w.heap.size]? = some (.cells #[.slice qa qm qc, .slice la lm lc, .int .i64 kk.t, .int .i64 kk.r, .int .i64 kk.s, .int .i64 kk.q, .slice ga gm gc] 49) ∧ Below w.heap.size w wr) (fun _ i _ => qm - (intOf i).toNat)
  case atStart => exact ⟨0, -1, Nat.zero_le _, rfl, rfl, Lib.hid (by simp), hn0, hT0⟩
  case round =>
    clear hn0 hT0 hZ0
    obtain ⟨k, x, hk, rfl, rfl, Hx, hn50, hT50⟩ := hrel
    by_cases hlt : k < qm
    · skip
      have i1 : (k : Int) < (qm : Int) := by omega
      have d1 : decide ((k : Int) < (qm : Int)) = true := by simpa using i1
      by_cases k0 : k = 0
      · skip
        have hx1 : x = -1 := by rw [Hx.out, if_pos k0]
        subst hx1
        subst k0
        clear Hx
        obtain ⟨nc0, nc1, nc2, nc3, nc4, nc5, nc6⟩ := cells7' hn50
        go_wp2_with fail
        clear nc0 nc1 nc2 nc3 nc4 nc5 nc6
        refine wp_region_held_drew (S := fun W => (W.cell? ⟨w.heap.size, 0, none⟩ = some (.slice qa qm qc) ∧ W.cell? ⟨w.heap.size, 1, none⟩ = some (.slice la lm lc) ∧ W.cell? ⟨w.heap.size, 2, none⟩ = some (.int .i64 kk.t) ∧ W.cell? ⟨w.heap.size, 3, none⟩ = some (.int .i64 kk.r) ∧ W.cell? ⟨w.heap.size, 4, none⟩ = some (.int .i64 kk.s) ∧ W.cell? ⟨w.heap.size, 5, none⟩ = some (.int .i64 kk.q) ∧ W.cell? ⟨w.heap.size, 6, none⟩ = some (.slice ga gm gc))) (by kernel_rfl) (by exact cells7' (block_below (below_drew1 _) hn50)) (fun hHeld_ => ?_)
        refine wpAnyH_take' (i := 0) (v := ?v0_t1) 18 rfl rfl (by kernel_rfl) (by kernel_rfl) (by kernel_rfl) (fun _ _ _ h => h) (Or.inl ⟨by kernel_rfl, ?hy0_t1⟩) (by assumption) ?rest0_t1
        case hy0_t1 => (intro W_ hS_; (try dsimp only at hS_); go_simp; (try (with_reducible rfl)))
        try simp only [Act.put, siA, scZ, scS]
        refine wpAnyH_take' (i := 1) (v := ?v1_t1) 19 rfl rfl (by kernel_rfl) (by kernel_rfl) (by kernel_rfl) (fun _ _ _ h => h) (Or.inl ⟨by kernel_rfl, ?hy1_t1⟩) (by assumption) ?rest1_t1
        case hy1_t1 => (intro W_ hS_; (try dsimp only at hS_); go_simp; (try (with_reducible rfl)))
        try simp only [Act.put, siA, scZ, scS]
        refine wpAnyH_take' (i := 2) (v := ?v2_t1) 20 rfl rfl (by kernel_rfl) (by kernel_rfl) (by kernel_rfl) (fun _ _ _ h => h) (Or.inl ⟨by kernel_rfl, ?hy2_t1⟩) (by assumption) ?rest2_t1
        case hy2_t1 => (intro W_ hS_; (try dsimp only at hS_); go_simp; (try (with_reducible rfl)))
        try simp only [Act.put, siA, scZ, scS]
        refine wpAnyH_take' (i := 3) (v := undef) 21 rfl rfl (by kernel_rfl) (by kernel_rfl) (by kernel_rfl) (fun _ _ _ h => h) (Or.inr ⟨by kernel_rfl, rfl⟩) (by assumption) ?_
        try simp only [Act.put, siA, scZ, scS]
        refine wpAnyH_take' (i := 4) (v := undef) 22 rfl rfl (by kernel_rfl) (by kernel_rfl) (by kernel_rfl) (fun _ _ _ h => h) (Or.inr ⟨by kernel_rfl, rfl⟩) (by assumption) ?_
        try simp only [Act.put, siA, scZ, scS]
        refine wpAnyH_take' (i := 5) (v := undef) 23 rfl rfl (by kernel_rfl) (by kernel_rfl) (by kernel_rfl) (fun _ _ _ h => h) (Or.inr ⟨by kernel_rfl, rfl⟩) (by assumption) ?_
        try simp only [Act.put, siA, scZ, scS]
        refine wpAnyH_take' (i := 6) (v := undef) 24 rfl rfl (by kernel_rfl) (by kernel_rfl) (by kernel_rfl) (fun _ _ _ h => h) (Or.inr ⟨by kernel_rfl, rfl⟩) (by assumption) ?_
        try simp only [Act.put, siA, scZ, scS]
        refine wpAnyH_take' (i := 7) (v := undef) 25 rfl rfl (by kernel_rfl) (by kernel_rfl) (by kernel_rfl) (fun _ _ _ h => h) (Or.inr ⟨by kernel_rfl, rfl⟩) (by assumption) ?_
        try simp only [Act.put, siA, scZ, scS]
        refine wpAnyH_take' (i := 9) (v := undef) 27 rfl rfl (by kernel_rfl) (by kernel_rfl) (by kernel_rfl) (fun _ _ _ h => h) (Or.inr ⟨by kernel_rfl, rfl⟩) (by assumption) ?_
        try simp only [Act.put, siA, scZ, scS]
        refine wpAnyH_take' (i := 10) (v := undef) 28 rfl rfl (by kernel_rfl) (by kernel_rfl) (by kernel_rfl) (fun _ _ _ h => h) (Or.inr ⟨by kernel_rfl, rfl⟩) (by assumption) ?_
        try simp only [Act.put, siA, scZ, scS]
        refine wpAnyH_take' (i := 11) (v := undef) 29 rfl rfl (by kernel_rfl) (by kernel_rfl) (by kernel_rfl) (fun _ _ _ h => h) (Or.inr ⟨by kernel_rfl, rfl⟩) (by assumption) ?_
        try simp only [Act.put, siA, scZ, scS]
        refine wpAnyH_take' (i := 12) (v := undef) 30 rfl rfl (by kernel_rfl) (by kernel_rfl) (by kernel_rfl) (fun _ _ _ h => h) (Or.inr ⟨by kernel_rfl, rfl⟩) (by assumption) ?_
        try simp only [Act.put, siA, scZ, scS]
        refine wpAnyH_take' (i := 13) (v := undef) 31 rfl rfl (by kernel_rfl) (by kernel_rfl) (by kernel_rfl) (fun _ _ _ h => h) (Or.inr ⟨by kernel_rfl, rfl⟩) (by assumption) ?_
        try simp only [Act.put, siA, scZ, scS]
        refine wpAnyH_skip (i := 8) 26 rfl rfl (by kernel_rfl) (by kernel_rfl) (by assumption) ?_
        try simp only [Act.put, siA, scZ, scS]
        refine wpAnyH_skip (i := 14) 32 rfl rfl (by kernel_rfl) (by kernel_rfl) (by assumption) ?_
        try simp only [Act.put, siA, scZ, scS]
        refine wpAnyH_skip (i := 15) 33 rfl rfl (by kernel_rfl) (by kernel_rfl) (by assumption) ?_
        try simp only [Act.put, siA, scZ, scS]
        refine wpAnyH_take' (i := 16) (v := ?v16_t1) 34 rfl rfl (by kernel_rfl) (by kernel_rfl) (by kernel_rfl) (fun _ _ _ h => h) (Or.inl ⟨by kernel_rfl, ?hy16_t1⟩) (by assumption) ?rest16_t1
        case hy16_t1 => (intro W_ hS_; (try dsimp only at hS_); go_simp; (try (with_reducible rfl)))
        try simp only [Act.put, siA, scZ, scS]
        refine wpAnyH_done (by kernel_rfl) ?_ _
        obtain ⟨nc0, nc1, nc2, nc3, nc4, nc5, nc6⟩ := cells7' hn50
        go_wp2_with fail
        clear nc0 nc1 nc2 nc3 nc4 nc5 nc6
        go_round
        case measure => simp [intOf]; omega
        exact ⟨1, 0, by omega, by go_num, rfl, Lib.hid (by rw [leastTo_first]; simp), hn50, below_then hT50 (below_drew1 _)⟩
      have hx1 : x = (leastTo N.q k : Int) := by rw [Hx.out, if_neg k0]
      clear Hx
      obtain ⟨j, hj⟩ : ∃ j, leastTo N.q k = j := ⟨_, rfl⟩
      have hjk : j < k := by rw [← hj]; exact leastTo_lt (by omega)
      rw [hj] at hx1
      subst hx1
      have Hj := Lib.hid hj
      clear hj
      obtain ⟨ad, f, ea, ha, hf, hF⟩ := fsl_getD (hq.to hT50) hlt
      obtain ⟨ad2, g, eb, hb, hg, hG⟩ := fsl_getD (hq.to hT50) (k := j) (by omega)
      subst ea
      obtain rfl := Option.some.inj eb
      clear eb
      have HF := Lib.hid (Hok.out _ hF)
      have HG := Lib.hid (Hok.out _ hG)
      clear hF hG
      have i2 : (j : Int) < (qm : Int) := by omega
      have i3 : ¬ (j : Int) < 0 := by omega
      have d3 : decide ((j : Int) < 0) = false := by simp
      obtain ⟨n1, hn1⟩ : ∃ n1, (rankC (N.q.getD k zeroF)).length = n1 := ⟨_, rfl⟩
      obtain ⟨n2, hn2⟩ : ∃ n2, (rankC (N.q.getD j zeroF)).length = n2 := ⟨_, rfl⟩
      have hl1 := rankC_le (N.q.getD k zeroF)
      have hl2 := rankC_le (N.q.getD j zeroF)
      rw [hn1] at hl1
      rw [hn2] at hl2
      have Hn1 := Lib.hid hn1
      have Hn2 := Lib.hid hn2
      clear hn1 hn2
      obtain ⟨q, hq⟩ : ∃ q, lessC (N.q.getD k zeroF) (N.q.getD j zeroF) = q := ⟨_, rfl⟩
      have Hq := Lib.hid hq
      clear hq
      have Hnx := Lib.hid (show leastTo N.q (k + 1) = if q then k else j by rw [leastTo, Hj.out, Hq.out])
      have hx50 := hf
      have hy50 := hg
      obtain ⟨a0, a1, a2, a3, a4⟩ := ha
      obtain ⟨b0, b1, b2, b3, b4⟩ := hb
      obtain ⟨nc0, nc1, nc2, nc3, nc4, nc5, nc6⟩ := cells7' hn50
      go_wp2_with fail
      clear nc0 nc1 nc2 nc3 nc4 nc5 nc6
      have ha := (⟨a0, a1, a2, a3, a4⟩ : FAt wr (ad.add (k * 5)) f)
      have hb := (⟨b0, b1, b2, b3, b4⟩ : FAt wr (ad.add (j * 5)) g)
      clear a0 a1 a2 a3 a4 b0 b1 b2 b3 b4
      refine wp_region_held_drew (S := fun W => (W.cell? ⟨w.heap.size, 0, none⟩ = some (.slice (some ad) qm qc) ∧ W.cell? ⟨w.heap.size, 1, none⟩ = some (.slice la lm lc) ∧ W.cell? ⟨w.heap.size, 2, none⟩ = some (.int .i64 kk.t) ∧ W.cell? ⟨w.heap.size, 3, none⟩ = some (.int .i64 kk.r) ∧ W.cell? ⟨w.heap.size, 4, none⟩ = some (.int .i64 kk.s) ∧ W.cell? ⟨w.heap.size, 5, none⟩ = some (.int .i64 kk.q) ∧ W.cell? ⟨w.heap.size, 6, none⟩ = some (.slice ga gm gc)) ∧ (W.cell? (ad.add (k * 5)) = some (.bool f.x) ∧ W.cell? ⟨(ad.add (k * 5)).block, (ad.add (k * 5)).off + 1, none⟩ = some (.int .i64 f.i) ∧ W.cell? ⟨(ad.add (k * 5)).block, (ad.add (k * 5)).off + 2, none⟩ = some (.bool f.r) ∧ W.cell? ⟨(ad.add (k * 5)).block, (ad.add (k * 5)).off + 3, none⟩ = some (.int .i64 f.n) ∧ W.cell? ⟨(ad.add (k * 5)).block, (ad.add (k * 5)).off + 4, none⟩ = some (.slice f.a f.m f.c)) ∧ (W.cell? (ad.add (j * 5)) = some (.bool g.x) ∧ W.cell? ⟨(ad.add (j * 5)).block, (ad.add (j * 5)).off + 1, none⟩ = some (.int .i64 g.i) ∧ W.cell? ⟨(ad.add (j * 5)).block, (ad.add (j * 5)).off + 2, none⟩ = some (.bool g.r) ∧ W.cell? ⟨(ad.add (j * 5)).block, (ad.add (j * 5)).off + 3, none⟩ = some (.int .i64 g.n) ∧ W.cell? ⟨(ad.add (j * 5)).block, (ad.add (j * 5)).off + 4, none⟩ = some (.slice g.a g.m g.c))) (by kernel_rfl) (by exact ⟨cells7' (block_below (below_drew1 _) hn50), (fat_to ha (below_drew1 _)), (fat_to hb (below_drew1 _))⟩) (fun hHeld_ => ?_)
      refine wpAnyH_take' (i := 0) (v := ?v0_t2) 18 rfl rfl (by kernel_rfl) (by kernel_rfl) (by kernel_rfl) (fun _ _ _ h => h) (Or.inl ⟨by kernel_rfl, ?hy0_t2⟩) (by assumption) ?rest0_t2
      case hy0_t2 => (intro W_ hS_; (try dsimp only at hS_); go_simp; (try (with_reducible rfl)))
      try simp only [Act.put, siA, scZ, scS]
      refine wpAnyH_take' (i := 1) (v := ?v1_t2) 19 rfl rfl (by kernel_rfl) (by kernel_rfl) (by kernel_rfl) (fun _ _ _ h => h) (Or.inl ⟨by kernel_rfl, ?hy1_t2⟩) (by assumption) ?rest1_t2
      case hy1_t2 => (intro W_ hS_; (try dsimp only at hS_); go_simp; (try (with_reducible rfl)))
      try simp only [Act.put, siA, scZ, scS]
      refine wpAnyH_take' (i := 2) (v := ?v2_t2) 20 rfl rfl (by kernel_rfl) (by kernel_rfl) (by kernel_rfl) (fun _ _ _ h => h) (Or.inl ⟨by kernel_rfl, ?hy2_t2⟩) (by assumption) ?rest2_t2
      case hy2_t2 => (intro W_ hS_; (try dsimp only at hS_); go_simp; (try (with_reducible rfl)))
      try simp only [Act.put, siA, scZ, scS]
      refine wpAnyH_take' (i := 3) (v := ?v3_t2) 21 rfl rfl (by kernel_rfl) (by kernel_rfl) (by kernel_rfl) (fun _ _ _ h => h) (Or.inl ⟨by kernel_rfl, ?hy3_t2⟩) (by assumption) ?rest3_t2
      case hy3_t2 => (intro W_ hS_; (try dsimp only at hS_); go_simp; (try (with_reducible rfl)))
      try simp only [Act.put, siA, scZ, scS]
      refine wpAnyH_take' (i := 4) (v := ?v4_t2) 22 rfl rfl (by kernel_rfl) (by kernel_rfl) (by kernel_rfl) (fun _ _ _ h => h) (Or.inl ⟨by kernel_rfl, ?hy4_t2⟩) (by assumption) ?rest4_t2
      case hy4_t2 => (intro W_ hS_; (try dsimp only at hS_); go_simp; (try (with_reducible rfl)))
      try simp only [Act.put, siA, scZ, scS]
      refine wpAnyH_take' (i := 5) (v := ?v5_t2) 23 rfl rfl (by kernel_rfl) (by kernel_rfl) (by kernel_rfl) (fun _ _ _ h => h) (Or.inl ⟨by kernel_rfl, ?hy5_t2⟩) (by assumption) ?rest5_t2
      case hy5_t2 => (intro W_ hS_; (try dsimp only at hS_); go_simp; (try (with_reducible rfl)))
      try simp only [Act.put, siA, scZ, scS]
      refine wpAnyH_take' (i := 6) (v := ?v6_t2) 24 rfl rfl (by kernel_rfl) (by kernel_rfl) (by kernel_rfl) (fun _ _ _ h => h) (Or.inl ⟨by kernel_rfl, ?hy6_t2⟩) (by assumption) ?rest6_t2
      case hy6_t2 => (intro W_ hS_; (try dsimp only at hS_); go_simp; (try (with_reducible rfl)))
      try simp only [Act.put, siA, scZ, scS]
      refine wpAnyH_take' (i := 7) (v := ?v7_t2) 25 rfl rfl (by kernel_rfl) (by kernel_rfl) (by kernel_rfl) (fun _ _ _ h => h) (Or.inl ⟨by kernel_rfl, ?hy7_t2⟩) (by assumption) ?rest7_t2
      case hy7_t2 => (intro W_ hS_; (try dsimp only at hS_); go_simp; (try (with_reducible rfl)))
      try simp only [Act.put, siA, scZ, scS]
      refine wpAnyH_take' (i := 9) (v := ?v9_t2) 27 rfl rfl (by kernel_rfl) (by kernel_rfl) (by kernel_rfl) (fun _ _ _ h => h) (Or.inl ⟨by kernel_rfl, ?hy9_t2⟩) (by assumption) ?rest9_t2
      case hy9_t2 => (intro W_ hS_; (try dsimp only at hS_); go_simp; (try (with_reducible rfl)))
      try simp only [Act.put, siA, scZ, scS]
      refine wpAnyH_take' (i := 10) (v := ?v10_t2) 28 rfl rfl (by kernel_rfl) (by kernel_rfl) (by kernel_rfl) (fun _ _ _ h => h) (Or.inl ⟨by kernel_rfl, ?hy10_t2⟩) (by assumption) ?rest10_t2
      case hy10_t2 => (intro W_ hS_; (try dsimp only at hS_); go_simp; (try (with_reducible rfl)))
      try simp only [Act.put, siA, scZ, scS]
      refine wpAnyH_take' (i := 11) (v := ?v11_t2) 29 rfl rfl (by kernel_rfl) (by kernel_rfl) (by kernel_rfl) (fun _ _ _ h => h) (Or.inl ⟨by kernel_rfl, ?hy11_t2⟩) (by assumption) ?rest11_t2
      case hy11_t2 => (intro W_ hS_; (try dsimp only at hS_); go_simp; (try (with_reducible rfl)))
      try simp only [Act.put, siA, scZ, scS]
      refine wpAnyH_take' (i := 12) (v := ?v12_t2) 30 rfl rfl (by kernel_rfl) (by kernel_rfl) (by kernel_rfl) (fun _ _ _ h => h) (Or.inl ⟨by kernel_rfl, ?hy12_t2⟩) (by assumption) ?rest12_t2
      case hy12_t2 => (intro W_ hS_; (try dsimp only at hS_); go_simp; (try (with_reducible rfl)))
      try simp only [Act.put, siA, scZ, scS]
      refine wpAnyH_take' (i := 13) (v := ?v13_t2) 31 rfl rfl (by kernel_rfl) (by kernel_rfl) (by kernel_rfl) (fun _ _ _ h => h) (Or.inl ⟨by kernel_rfl, ?hy13_t2⟩) (by assumption) ?rest13_t2
      case hy13_t2 => (intro W_ hS_; (try dsimp only at hS_); go_simp; (try (with_reducible rfl)))
      try simp only [Act.put, siA, scZ, scS]
      refine wpAnyH_ready (rs := [8]) (by kernel_rfl) (by simp) ?_
      refine AllReadyH.cons rfl (fun K_ hK_ => ?_) AllReadyH.nil
      go_simp
      refine (refRank_c (FIs.to hx50 (below_drew1 _)) HF.out n1 Hn1.out).mono ?_; rintro e wr8 ⟨A1, c1, rfl, hr1_, hc1, hBr8⟩
      go_wp2_with fail
      refine hK_.out _ _ (by exact ⟨cells7' (block_below hBr8 (block_below (below_drew1 _) hn50)), (fat_to (fat_to ha (below_drew1 _)) hBr8), (fat_to (fat_to hb (below_drew1 _)) hBr8)⟩) (fun hHeld_8 => ?_)
      clear hK_
      try simp only [Act.put, siA, scZ, scS]
      refine wpAnyH_ready (rs := [14]) (by kernel_rfl) (by simp) ?_
      refine AllReadyH.cons rfl (fun K_ hK_ => ?_) AllReadyH.nil
      go_simp
      refine (refRank_c (FIs.to (FIs.to hy50 (below_drew1 _)) hBr8) HG.out n2 Hn2.out).mono ?_; rintro e wr14 ⟨A2, c2, rfl, hr2_, hc2, hBr14⟩
      go_wp2_with fail
      refine hK_.out _ _ (by exact ⟨cells7' (block_below hBr14 (block_below hBr8 (block_below (below_drew1 _) hn50))), (fat_to (fat_to (fat_to ha (below_drew1 _)) hBr8) hBr14), (fat_to (fat_to (fat_to hb (below_drew1 _)) hBr8) hBr14)⟩) (fun hHeld_14 => ?_)
      clear hK_
      try simp only [Act.put, siA, scZ, scS]
      refine wpAnyH_ready (rs := [15]) (by kernel_rfl) (by simp) ?_
      refine AllReadyH.cons rfl (fun K_ hK_ => ?_) AllReadyH.nil
      go_simp
      refine (below_any (rankC (N.q.getD k zeroF)) (rankC (N.q.getD j zeroF)) n1 n2 Hn1.out Hn2.out A1 A2 c1 c2 _ (Row.to hr1_ hBr14) hr2_ (by omega) (by omega) q Hq.out).mono ?_; rintro e wr15 ⟨rfl, hBr15⟩
      go_wp2_with fail
      refine hK_.out _ _ (by exact ⟨cells7' (block_below hBr15 (block_below hBr14 (block_below hBr8 (block_below (below_drew1 _) hn50)))), (fat_to (fat_to (fat_to (fat_to ha (below_drew1 _)) hBr8) hBr14) hBr15), (fat_to (fat_to (fat_to (fat_to hb (below_drew1 _)) hBr8) hBr14) hBr15)⟩) (fun hHeld_15 => ?_)
      clear hK_
      try simp only [Act.put, siA, scZ, scS]
      refine wpAnyH_take' (i := 16) (v := ?v16_t2) 34 rfl rfl (by kernel_rfl) (by kernel_rfl) (by kernel_rfl) (fun _ _ _ h => h) (Or.inl ⟨by kernel_rfl, ?hy16_t2⟩) (by assumption) ?rest16_t2
      case hy16_t2 => (intro W_ hS_; (try dsimp only at hS_); go_simp; (try (with_reducible rfl)))
      try simp only [Act.put, siA, scZ, scS]
      refine wpAnyH_done (by kernel_rfl) ?_ _
      obtain ⟨w51, hw51⟩ : ∃ w51, wr15 = w51 := ⟨_, rfl⟩
      have hB51 : Below wr.heap.size wr w51 := by rw [← hw51]; exact (below_then (below_then (below_then (below_drew1 _) hBr8) hBr14) hBr15)
      have hr151 := (Row.to (Row.to hr1_ hBr14) hBr15)
      rw [hw51] at hr151
      have hr251 := (Row.to hr2_ hBr15)
      rw [hw51] at hr251
      rw [hw51]
      clear hw51 hr1_ hr2_ hBr8 hBr14 hBr15
      have hT51 := below_then hT50 hB51
      have hn51 := block_below hB51 hn50
      have hx51 := FIs.to hx50 hB51
      have hy51 := FIs.to hy50 hB51
      clear hT50 hn50 hx50 hy50 hB51
      clear hr151
      clear hr251
      clear hx51
      clear hy51
      cases q
      · skip
        obtain ⟨nc0, nc1, nc2, nc3, nc4, nc5, nc6⟩ := cells7' hn51
        go_wp2_with fail
        clear nc0 nc1 nc2 nc3 nc4 nc5 nc6
        go_round
        case measure => simp [intOf]; omega
        exact ⟨k + 1, j, by omega, by go_num, rfl, Lib.hid (by rw [Hnx.out, if_neg (by omega)]; simp), hn51, hT51⟩
      obtain ⟨nc0, nc1, nc2, nc3, nc4, nc5, nc6⟩ := cells7' hn51
      go_wp2_with fail
      clear nc0 nc1 nc2 nc3 nc4 nc5 nc6
      go_round
      case measure => simp [intOf]; omega
      exact ⟨k + 1, k, by omega, by go_num, rfl, Lib.hid (by rw [Hnx.out, if_neg (by omega)]; simp), hn51, hT51⟩
    obtain rfl : k = qm := by omega
    have i1 : ¬ (k : Int) < (k : Int) := by omega
    have d1 : decide ((k : Int) < (k : Int)) = false := by simp
    have Hxz := Lib.hid (show x = z by rw [Hx.out]; exact Hz.out)
    clear Hx
    obtain ⟨nc0, nc1, nc2, nc3, nc4, nc5, nc6⟩ := cells7' hn50
    go_wp2_with fail
    go_ret
    exact ⟨ret_int Hxz.out, hT50⟩
end Go.Proofs.YtcifjccojmfpaaaGreat

namespace Go.Proofs.YtcifjccojmfpaaaGreat
open Go.RowKit
set_option linter.unusedVariables false
set_option linter.unusedSimpArgs false
theorem refNext_c {w : World} {P : Nat → Prop} {n : NV} {N : NC} (h : NIs w P n N) (hok : OkN N) (q : Bool) (hq : hasN N = q) (F : FC) (hF : nextF N = F) :
    Calls Tryz.prog 26 #[n.v] w fun e w' => ∃ f : FV, e = .returned (.tuple #[f.v, .bool q]) ∧ FIs w' P f F ∧ Below w.heap.size w w' := by
  have hm := qm_le h hok
  have Hok := Lib.hid hok
  cases q
  · skip
    obtain rfl : zeroF = F := by rw [← hF]; unfold nextF; rw [hq]; rfl
    have Hq := Lib.hid hq
    clear hq hF hok
    obtain ⟨w0, hw0⟩ : ∃ w0, ((w.alloc (.cells #[.slice n.qa n.qm n.qc, .slice n.la n.lm n.lc, .int .i64 n.k.t, .int .i64 n.k.r, .int .i64 n.k.s, .int .i64 n.k.q, .slice n.ga n.gm n.gc] 49)).alloc (.cells #[.bool false, .int .i64 0, .bool false, .int .i64 0, .slice none 0 0] 34)) = w0 := ⟨_, rfl⟩
    have hT0 : Below w.heap.size w w0 := by rw [← hw0]; exact below_then (below_alloc1 _ _) (below_alloc1 _ _)
    have hn0 : w0.heap[w.heap.size]? = some (.cells #[.slice n.qa n.qm n.qc, .slice n.la n.lm n.lc, .int .i64 n.k.t, .int .i64 n.k.r, .int .i64 n.k.s, .int .i64 n.k.q, .slice n.ga n.gm n.gc] 49) := by rw [← hw0]; exact block_below (below_alloc1 _ _) (World.alloc_heap_new _ _)
    have hr0 : w0.heap[(w.heap.size + 1)]? = some (.cells #[.bool false, .int .i64 0, .bool false, .int .i64 0, .slice none 0 0] 34) := by rw [← hw0]; exact alloc_at _ _ (by simp)
    have hs0 : w0.heap.size = w.heap.size + 2 := by rw [← hw0]; simp
    have Hs0 := Lib.hid hs0
    clear hs0
    obtain ⟨nc0, nc1, nc2, nc3, nc4, nc5, nc6⟩ := cells7' hn0
    obtain ⟨rc0, rc1, rc2, rc3, rc4⟩ := cells5' hr0
    go_enter Tryz.func26, Tryz.ntmps26
    go_wp2_with fail
    clear nc0 nc1 nc2 nc3 nc4 nc5 nc6 rc0 rc1 rc2 rc3 rc4
    clear hw0
    have hZ0 := Below.refl w0.heap.size w0
    refine (place_c (h.to hT0) Hok.out.okq (by omega) (-1) (by rw [Hq.out]; rfl)).mono ?_
    rintro e w1 ⟨rfl, hB1⟩
    have hT1 := below_then hT0 hB1
    have hZ1 := below_then hZ0 hB1
    clear hZ0
    have hn1 := block_below hB1 hn0
    have hr1 := block_below hB1 hr0
    clear hT0 hn0 hr0  hB1
    obtain ⟨nc0, nc1, nc2, nc3, nc4, nc5, nc6⟩ := cells7' hn1
    obtain ⟨⟨rc0, rc1, rc2, rc3, rc4⟩, rf0, rf1, rf2, rf3, rf4⟩ := cells5 hr1
    go_wp2_with fail
    clear nc0 nc1 nc2 nc3 nc4 nc5 nc6 rc0 rc1 rc2 rc3 rc4 rf0 rf1 rf2 rf3 rf4
    exact bodyPost_ret (v := .tuple #[FV.v zeroFV, .bool false]) (results_f1 (f := zeroFV) (u := .bool false) rfl _ rfl rfl (set5_obj hr1 _ _ _ _ _)) rfl (⟨zeroFV, rfl, fis_zero, (below_g hT1 (set5_grown _ _ _ _ _ _ _) (by omega))⟩)
  obtain ⟨hlt, hat⟩ := nextF_mem hq
  rw [hF] at hat
  obtain ⟨k, hk⟩ : ∃ k, atN N = k := ⟨_, rfl⟩
  rw [hk] at hlt hat
  rw [h.q.len] at hlt
  have Hk := Lib.hid (show (if hasN N then (atN N : Int) else -1) = (k : Int) by rw [hq, hk]; rfl)
  have Hq := Lib.hid hq
  clear hk hq hF hok
  obtain ⟨qa, qm, qc, la, lm, lc, kk, ga, gm, gc⟩ := n
  dsimp only at hlt hm
  obtain ⟨ad, f, F0, hqa, hF0, ha, hf⟩ := h.q.at_ hlt
  dsimp only at hqa
  subst hqa
  obtain rfl : F = F0 := Option.some.inj (hat.symm.trans hF0)
  clear hat hF0
  obtain ⟨w0, hw0⟩ : ∃ w0, ((w.alloc (.cells #[.slice (some ad) qm qc, .slice la lm lc, .int .i64 kk.t, .int .i64 kk.r, .int .i64 kk.s, .int .i64 kk.q, .slice ga gm gc] 49)).alloc (.cells #[.bool false, .int .i64 0, .bool false, .int .i64 0, .slice none 0 0] 34)) = w0 := ⟨_, rfl⟩
  have hT0 : Below w.heap.size w w0 := by rw [← hw0]; exact below_then (below_alloc1 _ _) (below_alloc1 _ _)
  have hn0 : w0.heap[w.heap.size]? = some (.cells #[.slice (some ad) qm qc, .slice la lm lc, .int .i64 kk.t, .int .i64 kk.r, .int .i64 kk.s, .int .i64 kk.q, .slice ga gm gc] 49) := by rw [← hw0]; exact block_below (below_alloc1 _ _) (World.alloc_heap_new _ _)
  have hr0 : w0.heap[(w.heap.size + 1)]? = some (.cells #[.bool false, .int .i64 0, .bool false, .int .i64 0, .slice none 0 0] 34) := by rw [← hw0]; exact alloc_at _ _ (by simp)
  have hs0 : w0.heap.size = w.heap.size + 2 := by rw [← hw0]; simp
  have Hs0 := Lib.hid hs0
  clear hs0
  obtain ⟨nc0, nc1, nc2, nc3, nc4, nc5, nc6⟩ := cells7' hn0
  obtain ⟨rc0, rc1, rc2, rc3, rc4⟩ := cells5' hr0
  go_enter Tryz.func26, Tryz.ntmps26
  go_wp2_with fail
  clear nc0 nc1 nc2 nc3 nc4 nc5 nc6 rc0 rc1 rc2 rc3 rc4
  clear hw0
  have hZ0 := Below.refl w0.heap.size w0
  refine (place_c (n := ⟨some ad, qm, qc, la, lm, lc, kk, ga, gm, gc⟩) (h.to hT0) Hok.out.okq (by show qm ≤ 1000; omega) k Hk.out).mono ?_
  rintro e w1 ⟨rfl, hB1⟩
  have hT1 := below_then hT0 hB1
  have hZ1 := below_then hZ0 hB1
  clear hZ0
  have hn1 := block_below hB1 hn0
  have hr1 := block_below hB1 hr0
  clear hT0 hn0 hr0  hB1
  obtain ⟨a0, a1, a2, a3, a4⟩ := fat_to ha hT1
  have i1 : (k : Int) < (qm : Int) := by omega
  have i2 : ¬ (k : Int) < 0 := by omega
  have i3 : decide ((k : Int) < 0) = false := by simp
  obtain ⟨nc0, nc1, nc2, nc3, nc4, nc5, nc6⟩ := cells7' hn1
  obtain ⟨⟨rc0, rc1, rc2, rc3, rc4⟩, rf0, rf1, rf2, rf3, rf4⟩ := cells5 hr1
  go_wp2_with fail
  clear nc0 nc1 nc2 nc3 nc4 nc5 nc6 rc0 rc1 rc2 rc3 rc4 rf0 rf1 rf2 rf3 rf4
  exact bodyPost_ret (v := .tuple #[FV.v f, .bool true]) (results_f1 (f := f) (u := .bool true) rfl _ rfl rfl (set5_obj hr1 _ _ _ _ _)) rfl (⟨f, rfl, hf.to (below_g hT1 (set5_grown _ _ _ _ _ _ _) (by omega)), (below_g hT1 (set5_grown _ _ _ _ _ _ _) (by omega))⟩)
end Go.Proofs.YtcifjccojmfpaaaGreat

namespace Go.Proofs.YtcifjccojmfpaaaGreat
open Go Go.RowKit
section
variable {P : Program} {md : Region.Mode} {ops : Array Oper} {Q : Exit → Act → World → Prop} {S : World → Prop} {z : Nat}
def wpTill (P : Program) (md : Region.Mode) (ops : Array Oper) (Q : Exit → Act → World → Prop) (S : World → Prop) (z : Nat) : Nat → Array Bool → Act → World → Prop
  | 0, listed, a, w => Region.ready md ops listed = [] ∧ Q .normal a w
  | left + 1, listed, a, w => (Region.ready md ops listed = [] → Q .normal a w) ∧
      ∀ i ∈ Region.ready md ops listed, wpOp P ops Q i (fun a' w' => (i ≠ z → S w') ∧ wpTill P md ops Q S z left (listed.setIfInBounds i true) a' w') a w
theorem wpTill_any : ∀ (left : Nat) (listed : Array Bool) (a : Act) (w : World), wpTill P md ops Q S z left listed a w → wpAny P md ops Q left listed a w
  | 0, _, _, _, h => h
  | left + 1, _, _, _, h => ⟨h.1, fun i hi => wpOp_mono (fun a' w' h' => wpTill_any left _ a' w' h'.2) (h.2 i hi)⟩
theorem wpTill_first {i : Nat} {oi : Oper} {v : Value} (hi : ops[i]? = some oi) (hsel : ∀ (j : Nat) (o : Oper) cs b, ops[j]? = some o → o.op ≠ .select cs b)
    (hQ : ∀ c a w, Q (.panic c) (a.put oi.dst v) w → Q (.panic c) a w) (hz : ∀ oz, ops[z]? = some oz → ∃ e ∈ oz.after, Region.binds md e = true ∧ e.on = i) (left : Nat) : ∀ (listed : Array Bool) (a : Act) (w : World),
      (∀ j oj, ops[j]? = some oj → j ≠ i → listed.getD j true = false → (∀ e ∈ oj.after, Region.binds md e = true → e.on ≠ i) → oi.apart ops oj = true) →
      i ∈ Region.ready md ops listed → YieldsIf P ops S oi v a → S w →
      wpTill P md ops Q S z left (listed.setIfInBounds i true) (a.put oi.dst v) w → wpTill P md ops Q S z (left + 1) listed a w := by
  induction left with
  | zero =>
    intro listed a w _ hr hy hS H
    refine ⟨fun h => absurd hr (by rw [h]; simp), fun j hj => ?_⟩
    by_cases e : j = i
    · subst e
      exact hy.wpOp hi hS ⟨fun _ => hS, H⟩
    · have := ready_mono hj e
      rw [H.1] at this
      cases this
  | succ left ih =>
    intro listed a w hf hr hy hS H
    refine ⟨fun h => absurd hr (by rw [h]; simp), fun j hj => ?_⟩
    by_cases e : j = i
    · subst e
      exact hy.wpOp hi hS ⟨fun _ => hS, H⟩
    · obtain ⟨hu, oj, ho, hall⟩ := mem_ready.1 hj
      have hno : ∀ x ∈ oj.after, Region.binds md x = true → x.on ≠ i := fun x hx hb hq => by
        have g1 := hall x hx hb
        have g0 := (mem_ready.1 hr).1
        rw [hq] at g1
        by_cases hs : i < listed.size
        · simp [hs] at g0 g1; rw [g0] at g1; cases g1
        · simp [Array.getElem?_eq_none (Nat.le_of_not_lt hs)] at g1
      have hjz : j ≠ z := fun e1 => by
        subst e1
        obtain ⟨x, hx, hb, hq⟩ := hz oj ho
        exact hno x hx hb hq
      have key := wpOp_putIf ho (hf j oj ho e hu hno) (fun cs b => hsel i oi cs b hi) (fun cs b => hsel j oj cs b ho) hQ hy (H.2 j (ready_mono hj e))
      refine wpOp_mono (fun a' w' h3 => ⟨fun _ => h3.2.1 hjz, ?_⟩) key
      refine ih (listed.setIfInBounds j true) a' w' (fun k ok hk hki hun hn => ?_) (ready_mono hr (Ne.symm e)) h3.1 (h3.2.1 hjz) ?_
      · refine hf k ok hk hki ?_ hn
        by_cases hjk : j = k
        · subst hjk; exact hu
        · rwa [getD_set_ne true hjk] at hun
      · rw [Array.setIfInBounds_comm _ _ e]
        exact h3.2.2
theorem wpTill_take {i : Nat} {oi : Oper} {v : Value} {left : Nat} {listed : Array Bool} {a : Act} {w : World} (d : Nat) (hi : ops[i]? = some oi) (hd : oi.dst = some d)
    (hs : Region.noSelect ops = true) (hf : Region.free md ops listed i = true) (hr : (Region.ready md ops listed).contains i = true)
    (hQ : ∀ c a w, Q (.panic c) (a.put oi.dst v) w → Q (.panic c) a w) (hy : YieldsIf P ops S oi v a) (hS : S w) (hz : (match ops[z]? with | some o => o.after.any (fun e => Region.binds md e && e.on == i) | none => true) = true)
    (h : wpTill P md ops Q S z left (listed.setIfInBounds i true) (a.put (some d) v) w) : wpTill P md ops Q S z (left + 1) listed a w :=
  wpTill_first hi (Region.noSelect_spec hs) hQ (fun oz ho => by
    rw [ho] at hz
    obtain ⟨k, hk, he⟩ := Array.any_eq_true.1 hz
    simp only [Bool.and_eq_true, beq_iff_eq] at he
    exact ⟨_, Array.getElem_mem hk, he⟩) left listed a w (Region.free_spec hi hf) (by simpa using hr) hy hS (by rw [hd]; exact h)
def AllTill (P : Program) (md : Region.Mode) (ops : Array Oper) (Q : Exit → Act → World → Prop) (S : World → Prop) (z : Nat) (left : Nat) (listed : Array Bool) (a : Act) (w : World) (rs : List Nat) : Prop :=
  ∀ i ∈ rs, wpOp P ops Q i (fun a' w' => (i ≠ z → S w') ∧ wpTill P md ops Q S z left (listed.setIfInBounds i true) a' w') a w
theorem AllTill.nil {left : Nat} {listed : Array Bool} {a : Act} {w : World} : AllTill P md ops Q S z left listed a w [] := fun _ h => by cases h
theorem AllTill.cons {left : Nat} {listed : Array Bool} {a : Act} {w : World} {i : Nat} {o : Oper} {rs : List Nat} (ho : ops[i]? = some o)
    (h : ∀ K' : Act → World → Prop, Shut (∀ a w, (i ≠ z → S w) → ((i ≠ z → S w) → wpTill P md ops Q S z left (listed.setIfInBounds i true) a w) → K' a w) → if Region.wanted o (yielded ops a.tmps) = true then Oper.wp P o a w K' Q else K' (a.put o.dst undef) w)
    (hs : AllTill P md ops Q S z left listed a w rs) : AllTill P md ops Q S z left listed a w (i :: rs) := fun j hj => by
  rcases List.mem_cons.1 hj with rfl | hj
  · exact wpOp_step ho (fun K' hK => h K' (fun a w h1 h2 => hK a w ⟨h1, h2 h1⟩))
  · exact hs j hj
theorem wpTill_ready {rs : List Nat} {left : Nat} {listed : Array Bool} {a : Act} {w : World} (hr : Region.ready md ops listed = rs) (hne : rs ≠ [])
    (h : AllTill P md ops Q S z left listed a w rs) : wpTill P md ops Q S z (left + 1) listed a w := ⟨fun h0 => absurd (hr ▸ h0) hne, hr ▸ h⟩
theorem wpTill_done {listed : Array Bool} {a : Act} {w : World} (hr : Region.ready md ops listed = []) (h : Q .normal a w) : ∀ left, wpTill P md ops Q S z left listed a w
  | 0 => ⟨hr, h⟩
  | _ + 1 => ⟨fun _ => h, by rw [hr]; simp⟩
theorem wp_region_till (z : Nat) {id : Nat} {a : Act} {w : World} (hm : P.follows .mixedOrders = true) (hS : S w.drew)
    (h : S w.drew → wpTill P .any ops Q S z ops.size (Array.replicate ops.size false) a w.drew) : (Code.region id ops true).wp P Q a w :=
  wp_region_any hm (wpTill_any _ _ _ _ (h hS))
end
end Go.Proofs.YtcifjccojmfpaaaGreat

namespace Go.Proofs.YtcifjccojmfpaaaGreat
open Go.RowKit
set_option linter.unusedVariables false
set_option linter.unusedSimpArgs false
theorem step_append_fr {w : World} {ops : Array Oper} {o : Oper} {a : Act} {K : Act → World → Prop} {Q : Exit → Act → World → Prop} {E : Prop} (hgd : o.guard = none) (s x : Operand)
    (ho : o.op = .call { callee := .builtin .append, args := #[s, x], argTypes := #[44, 44] })
    (base : Nat) (v : Value) (n : Nat) (fs : List FV) (hs : a.eval s = v) (hown : w.ownsRow base 34 5 v n (fcells fs))
    (A : Option Addr) (m c B : Nat) (fs' : List FV) (hx : a.eval x = .slice A m c) (hm : fs'.length = m) (hr : FRow w B A fs')
    (h63 : n + m ≤ 1000) (hbase : base ≤ w.heap.size) (d : Nat) (hd : o.dst = some d)
    (h : ∀ A' c' w', FOwn w' base A' (n + m) c' (fs ++ fs') → n + m ≤ c' → Below base w w' → K (a.put (some d) (.slice A' (n + m) c')) w') :
    if Region.wanted o (yielded ops a.tmps) = true then Oper.wp Tryz.prog o a w K Q else E := by
  obtain ⟨A', c', w', hrun, h2, hc', h3⟩ := run_append_fr w base o.type v n fs hown A m c B fs' hm hr h63 hbase
  have hw : Region.wanted o (yielded ops a.tmps) = true := by simp [Region.wanted, hgd]
  rw [if_pos hw]
  unfold Oper.wp execOp
  simp only [ho, resolve, invoke, builtin, Sem.run_bind, Sem.run_pure, Result.andThen_ok, List.map_toArray, List.map_cons, List.map_nil, hs, hx, hrun]
  rw [← hd] at h
  exact h A' c' w' h2 hc' h3
theorem refSent_none {w : World} {P : Nat → Prop} {n : NV} {N : NC} (h : NIs w P n N) (hok : OkN N) (hP : ∀ b, w.heap.size ≤ b → P b) (ok : Bool) (hq : hasN N = false) :
    Calls Tryz.prog 28 #[n.v, .bool ok] w fun e w' => ∃ n' : NV, e = .returned n'.v ∧ NIs w' P n' N ∧ Below w.heap.size w w' := by
  have hm := qm_le h hok
  have hkk := okC_of_nis h hok
  have Hok := Lib.hid hok
  have Hq := Lib.hid hq
  clear hq hok
  obtain ⟨w0, hw0⟩ : ∃ w0, ((w.alloc (.cells #[.slice n.qa n.qm n.qc, .slice n.la n.lm n.lc, .int .i64 n.k.t, .int .i64 n.k.r, .int .i64 n.k.s, .int .i64 n.k.q, .slice n.ga n.gm n.gc] 49)).alloc (.cells #[.slice none 0 0, .slice none 0 0, .int .i64 0, .int .i64 0, .int .i64 0, .int .i64 0, .slice none 0 0] 49)) = w0 := ⟨_, rfl⟩
  have hT0 : Below w.heap.size w w0 := by rw [← hw0]; exact below_then (below_alloc1 _ _) (below_alloc1 _ _)
  have hn0 : w0.heap[w.heap.size]? = some (.cells #[.slice n.qa n.qm n.qc, .slice n.la n.lm n.lc, .int .i64 n.k.t, .int .i64 n.k.r, .int .i64 n.k.s, .int .i64 n.k.q, .slice n.ga n.gm n.gc] 49) := by rw [← hw0]; exact block_below (below_alloc1 _ _) (World.alloc_heap_new _ _)
  have hr0 : w0.heap[(w.heap.size + 1)]? = some (.cells #[.slice none 0 0, .slice none 0 0, .int .i64 0, .int .i64 0, .int .i64 0, .int .i64 0, .slice none 0 0] 49) := by rw [← hw0]; exact alloc_at _ _ (by simp)
  have hs0 : w0.heap.size = w.heap.size + 2 := by rw [← hw0]; simp
  have Hs0 := Lib.hid hs0
  clear hs0
  obtain ⟨nc0, nc1, nc2, nc3, nc4, nc5, nc6⟩ := cells7' hn0
  obtain ⟨rc0, rc1, rc2, rc3, rc4, rc5, rc6⟩ := cells7' hr0
  go_enter Tryz.func28, Tryz.ntmps28
  go_wp2_with fail
  clear nc0 nc1 nc2 nc3 nc4 nc5 nc6 rc0 rc1 rc2 rc3 rc4 rc5 rc6
  clear hw0
  have hZ0 := Below.refl w0.heap.size w0
  refine (place_c (h.to hT0) Hok.out.okq (by omega) (-1) (by rw [Hq.out]; rfl)).mono ?_
  rintro e w1 ⟨rfl, hB1⟩
  have hT1 := below_then hT0 hB1
  have hZ1 := below_then hZ0 hB1
  clear hZ0
  have hn1 := block_below hB1 hn0
  have hr1 := block_below hB1 hr0
  clear hT0 hn0 hr0  hB1
  obtain ⟨nc0, nc1, nc2, nc3, nc4, nc5, nc6⟩ := cells7' hn1
  obtain ⟨⟨rc0, rc1, rc2, rc3, rc4, rc5, rc6⟩, rf0, rf1, rf2, rf3, rf4, rf5, rf6⟩ := cells7 hr1
  go_wp2_with fail
  clear nc0 nc1 nc2 nc3 nc4 nc5 nc6 rc0 rc1 rc2 rc3 rc4 rc5 rc6 rf0 rf1 rf2 rf3 rf4 rf5 rf6
  exact bodyPost_ret (v := NV.v n) (results_n (n := n) rfl _ rfl (set7_obj hr1 _ _ _ _ _ _ _)) rfl (⟨n, rfl, h.to (below_g hT1 (set7_grown _ _ _ _ _ _ _ _ _) (by omega)), (below_g hT1 (set7_grown _ _ _ _ _ _ _ _ _) (by omega))⟩)
theorem refSent_no {w : World} {P : Nat → Prop} {n : NV} {N : NC} (h : NIs w P n N) (hok : OkN N) (hP : ∀ b, w.heap.size ≤ b → P b) (hq : hasN N = true) :
    Calls Tryz.prog 28 #[n.v, .bool false] w fun e w' => ∃ n' : NV, e = .returned n'.v ∧ NIs w' P n' ⟨N.q, N.l, stepV N.k 3, N.g⟩ ∧ Below w.heap.size w w' := by
  have hm := qm_le h hok
  have hkk := okC_of_nis h hok
  have Hok := Lib.hid hok
  obtain ⟨hlt, _⟩ := nextF_mem hq
  obtain ⟨k, hk⟩ : ∃ k, atN N = k := ⟨_, rfl⟩
  rw [hk] at hlt
  rw [h.q.len] at hlt
  have Hk := Lib.hid (show (if hasN N then (atN N : Int) else -1) = (k : Int) by rw [hq, hk]; rfl)
  have i2 : ¬ (k : Int) < 0 := by omega
  have i3 : decide ((k : Int) < 0) = false := by simp
  clear hk hq hok
  obtain ⟨d, hd⟩ : ∃ d, stepV n.k 3 = d := ⟨_, rfl⟩
  have Hd := Lib.hid hd
  have HD := Lib.hid (show d = stepV N.k 3 by rw [← h.k, hd])
  clear hd
  obtain ⟨w0, hw0⟩ : ∃ w0, ((w.alloc (.cells #[.slice n.qa n.qm n.qc, .slice n.la n.lm n.lc, .int .i64 n.k.t, .int .i64 n.k.r, .int .i64 n.k.s, .int .i64 n.k.q, .slice n.ga n.gm n.gc] 49)).alloc (.cells #[.slice none 0 0, .slice none 0 0, .int .i64 0, .int .i64 0, .int .i64 0, .int .i64 0, .slice none 0 0] 49)) = w0 := ⟨_, rfl⟩
  have hT0 : Below w.heap.size w w0 := by rw [← hw0]; exact below_then (below_alloc1 _ _) (below_alloc1 _ _)
  have hn0 : w0.heap[w.heap.size]? = some (.cells #[.slice n.qa n.qm n.qc, .slice n.la n.lm n.lc, .int .i64 n.k.t, .int .i64 n.k.r, .int .i64 n.k.s, .int .i64 n.k.q, .slice n.ga n.gm n.gc] 49) := by rw [← hw0]; exact block_below (below_alloc1 _ _) (World.alloc_heap_new _ _)
  have hr0 : w0.heap[(w.heap.size + 1)]? = some (.cells #[.slice none 0 0, .slice none 0 0, .int .i64 0, .int .i64 0, .int .i64 0, .int .i64 0, .slice none 0 0] 49) := by rw [← hw0]; exact alloc_at _ _ (by simp)
  have hs0 : w0.heap.size = w.heap.size + 2 := by rw [← hw0]; simp
  have Hs0 := Lib.hid hs0
  clear hs0
  obtain ⟨nc0, nc1, nc2, nc3, nc4, nc5, nc6⟩ := cells7' hn0
  obtain ⟨rc0, rc1, rc2, rc3, rc4, rc5, rc6⟩ := cells7' hr0
  go_enter Tryz.func28, Tryz.ntmps28
  go_wp2_with fail
  clear nc0 nc1 nc2 nc3 nc4 nc5 nc6 rc0 rc1 rc2 rc3 rc4 rc5 rc6
  clear hw0
  have hZ0 := Below.refl w0.heap.size w0
  refine (place_c (h.to hT0) Hok.out.okq (by omega) k Hk.out).mono ?_
  rintro e w1 ⟨rfl, hB1⟩
  have hT1 := below_then hT0 hB1
  have hZ1 := below_then hZ0 hB1
  clear hZ0
  have hn1 := block_below hB1 hn0
  have hr1 := block_below hB1 hr0
  clear hT0 hn0 hr0  hB1
  obtain ⟨nc0, nc1, nc2, nc3, nc4, nc5, nc6⟩ := cells7' hn1
  obtain ⟨rc0, rc1, rc2, rc3, rc4, rc5, rc6⟩ := cells7' hr1
  go_wp2_with fail
  clear nc0 nc1 nc2 nc3 nc4 nc5 nc6 rc0 rc1 rc2 rc3 rc4 rc5 rc6
  refine (refStep_any n.k d 3 Hd.out hkk w1).mono ?_
  rintro e w2 ⟨rfl, hB2⟩
  have hT2 := below_then hT1 hB2
  have hZ2 := below_then hZ1 hB2
  clear hZ1
  have hn2 := block_below hB2 hn1
  have hr2 := block_below hB2 hr1
  clear hT1 hn1 hr1  hB2
  obtain ⟨⟨nc0, nc1, nc2, nc3, nc4, nc5, nc6⟩, nf0, nf1, nf2, nf3, nf4, nf5, nf6⟩ := cells7 hn2
  obtain ⟨⟨rc0, rc1, rc2, rc3, rc4, rc5, rc6⟩, rf0, rf1, rf2, rf3, rf4, rf5, rf6⟩ := cells7 hr2
  go_wp2_with fail
  clear nc0 nc1 nc2 nc3 nc4 nc5 nc6 nf0 nf1 nf2 nf3 nf4 nf5 nf6 rc0 rc1 rc2 rc3 rc4 rc5 rc6 rf0 rf1 rf2 rf3 rf4 rf5 rf6
  exact bodyPost_ret (v := NV.v ⟨n.qa, n.qm, n.qc, n.la, n.lm, n.lc, d, n.ga, n.gm, n.gc⟩) (results_n (n := ⟨n.qa, n.qm, n.qc, n.la, n.lm, n.lc, d, n.ga, n.gm, n.gc⟩) rfl _ rfl (set7_obj (other_g (set25_grown _ _ _ _ _ _) hr2 (by omega)) _ _ _ _ _ _ _)) rfl ⟨⟨n.qa, n.qm, n.qc, n.la, n.lm, n.lc, d, n.ga, n.gm, n.gc⟩, rfl, ⟨h.q.to (below_g (below_g hT2 (set25_grown _ _ _ _ _ _) (Nat.le_refl _)) (set7_grown _ _ _ _ _ _ _ _ _) (by omega)), h.l.to (below_g (below_g hT2 (set25_grown _ _ _ _ _ _) (Nat.le_refl _)) (set7_grown _ _ _ _ _ _ _ _ _) (by omega)), HD.out, h.g.to (below_g (below_g hT2 (set25_grown _ _ _ _ _ _) (Nat.le_refl _)) (set7_grown _ _ _ _ _ _ _ _ _) (by omega))⟩, (below_g (below_g hT2 (set25_grown _ _ _ _ _ _) (Nat.le_refl _)) (set7_grown _ _ _ _ _ _ _ _ _) (by omega))⟩
theorem refSent_yes {w : World} {P : Nat → Prop} {n : NV} {N : NC} (h : NIs w P n N) (hok : OkN N) (hP : ∀ b, w.heap.size ≤ b → P b) (hq : hasN N = true) :
    Calls Tryz.prog 28 #[n.v, .bool true] w fun e w' => ∃ n' : NV, e = .returned n'.v ∧ NIs w' P n' ⟨N.q.eraseIdx (atN N), N.l, stepV N.k 1, N.g⟩ ∧ Below w.heap.size w w' := by
  have hm := qm_le h hok
  have hkk := okC_of_nis h hok
  have Hok := Lib.hid hok
  obtain ⟨hlt, _⟩ := nextF_mem hq
  obtain ⟨k, hk⟩ : ∃ k, atN N = k := ⟨_, rfl⟩
  rw [hk] at hlt
  rw [h.q.len] at hlt
  have Hk := Lib.hid (show (if hasN N then (atN N : Int) else -1) = (k : Int) by rw [hq, hk]; rfl)
  have i2 : ¬ (k : Int) < 0 := by omega
  have i3 : decide ((k : Int) < 0) = false := by simp
  rw [hk]
  clear hk hq hok
  obtain ⟨Gs, hGs⟩ : ∃ Gs, N.q.eraseIdx k = Gs := ⟨_, rfl⟩
  rw [hGs]
  have HGs := Lib.hid (show N.q.take k ++ N.q.drop (k + 1) = Gs by rw [← hGs]; exact (List.eraseIdx_eq_take_drop_succ N.q k).symm)
  clear hGs
  obtain ⟨d, hd⟩ : ∃ d, stepV n.k 1 = d := ⟨_, rfl⟩
  have Hd := Lib.hid hd
  have HD := Lib.hid (show d = stepV N.k 1 by rw [← h.k, hd])
  clear hd
  have hcap := h.q.cap
  obtain ⟨qa, qm, qc, la, lm, lc, kk, ga, gm, gc⟩ := n
  dsimp only at hlt hm hkk Hd hcap
  obtain ⟨ad, f, F0, hqa, _⟩ := h.q.at_ hlt
  dsimp only at hqa
  subst hqa
  obtain ⟨fs, hrow, his⟩ := h.q.row
  dsimp only at hrow
  have hfl : fs.length = qm := his.1.trans h.q.len
  have hsl : FRow w w.heap.size (some ad) (fs.take k) := by
    have := hrow.sub_ 0 k (Nat.zero_le _) (by rw [hfl]; omega) (A' := some ad) (fun _ => by simp [Addr.add])
    simpa using this
  have hsr : FRow w w.heap.size (some (ad.add ((k + 1) * 5))) (fs.drop (k + 1)) := by
    have := hrow.sub_ (k + 1) qm (by omega) (by rw [hfl]; exact Nat.le_refl _) (A' := some (ad.add ((k + 1) * 5))) (fun _ => rfl)
    rwa [List.take_of_length_le (by rw [List.length_drop, hfl]; omega)] at this
  have hsr' := hsr
  rw [add_pos _ _ (by omega)] at hsr'
  have Htl := Lib.hid (show (fs.take k).length = k by rw [List.length_take, hfl]; omega)
  have Hdl := Lib.hid (show (fs.drop (k + 1)).length = qm - (k + 1) by rw [List.length_drop, hfl])
  have Hds := Lib.hid (show FsIs w P (fs.take k ++ fs.drop (k + 1)) Gs by rw [← HGs.out]; exact (his.take k).append (his.drop (k + 1)))
  clear hfl his
  have j1 : (k : Int) ≤ (qc : Int) := by omega
  have j2 : (k : Int) + 1 ≤ (qm : Int) := by omega
  have j3 : (qm : Int) ≤ (qc : Int) := by omega
  have j6 : (0 : Int) ≤ (k : Int) + 1 := by omega
  have j4 : ((k : Int) + 1).toNat = k + 1 := by omega
  have j5 : IntKind.i64.wrap ((k : Int) + 1) = (k : Int) + 1 := by rw [IntKind.wrap_i64]; omega
  have j7 : (0 : Int) ≤ (k : Int) := by omega
  have hnis := h
  by_cases hce : k + 1 = qc
  · skip
    have Hdn := Lib.hid (show fs.drop (k + 1) = [] from List.eq_nil_of_length_eq_zero (by rw [Hdl.out]; omega))
    obtain ⟨w0, hw0⟩ : ∃ w0, ((w.alloc (.cells #[.slice (some ad) qm qc, .slice la lm lc, .int .i64 kk.t, .int .i64 kk.r, .int .i64 kk.s, .int .i64 kk.q, .slice ga gm gc] 49)).alloc (.cells #[.slice none 0 0, .slice none 0 0, .int .i64 0, .int .i64 0, .int .i64 0, .int .i64 0, .slice none 0 0] 49)) = w0 := ⟨_, rfl⟩
    have hT0 : Below w.heap.size w w0 := by rw [← hw0]; exact below_then (below_alloc1 _ _) (below_alloc1 _ _)
    have hn0 : w0.heap[w.heap.size]? = some (.cells #[.slice (some ad) qm qc, .slice la lm lc, .int .i64 kk.t, .int .i64 kk.r, .int .i64 kk.s, .int .i64 kk.q, .slice ga gm gc] 49) := by rw [← hw0]; exact block_below (below_alloc1 _ _) (World.alloc_heap_new _ _)
    have hr0 : w0.heap[(w.heap.size + 1)]? = some (.cells #[.slice none 0 0, .slice none 0 0, .int .i64 0, .int .i64 0, .int .i64 0, .int .i64 0, .slice none 0 0] 49) := by rw [← hw0]; exact alloc_at _ _ (by simp)
    have hs0 : w0.heap.size = w.heap.size + 2 := by rw [← hw0]; simp
    have Hs0 := Lib.hid hs0
    clear hs0
    obtain ⟨nc0, nc1, nc2, nc3, nc4, nc5, nc6⟩ := cells7' hn0
    obtain ⟨rc0, rc1, rc2, rc3, rc4, rc5, rc6⟩ := cells7' hr0
    go_enter Tryz.func28, Tryz.ntmps28
    go_wp2_with fail
    clear nc0 nc1 nc2 nc3 nc4 nc5 nc6 rc0 rc1 rc2 rc3 rc4 rc5 rc6
    clear hw0
    have hZ0 := Below.refl w0.heap.size w0
    refine (place_c (n := ⟨some ad, qm, qc, la, lm, lc, kk, ga, gm, gc⟩) (h.to hT0) Hok.out.okq (by show qm ≤ 1000; omega) k Hk.out).mono ?_
    rintro e w1 ⟨rfl, hB1⟩
    have hT1 := below_then hT0 hB1
    have hZ1 := below_then hZ0 hB1
    clear hZ0
    have hn1 := block_below hB1 hn0
    have hr1 := block_below hB1 hr0
    clear hT0 hn0 hr0  hB1
    obtain ⟨nc0, nc1, nc2, nc3, nc4, nc5, nc6⟩ := cells7' hn1
    obtain ⟨rc0, rc1, rc2, rc3, rc4, rc5, rc6⟩ := cells7' hr1
    go_wp2_with fail
    clear nc0 nc1 nc2 nc3 nc4 nc5 nc6 rc0 rc1 rc2 rc3 rc4 rc5 rc6
    have hBd2 : Below w1.heap.size w1 (w1.alloc (.cells #[] 34)).drew := below_then (below_alloc1 _ _) (below_drew1 _)
    have hBd := below_then hT1 hBd2
    refine wp_region_till 13 (S := fun W => W.cell? ⟨w.heap.size, 0, none⟩ = some (.slice (some ad) qm qc) ∧ W.cell? ⟨w.heap.size, 1, none⟩ = some (.slice la lm lc) ∧ W.cell? ⟨w.heap.size, 2, none⟩ = some (.int .i64 kk.t) ∧ W.cell? ⟨w.heap.size, 3, none⟩ = some (.int .i64 kk.r) ∧ W.cell? ⟨w.heap.size, 4, none⟩ = some (.int .i64 kk.s) ∧ W.cell? ⟨w.heap.size, 5, none⟩ = some (.int .i64 kk.q) ∧ W.cell? ⟨w.heap.size, 6, none⟩ = some (.slice ga gm gc)) (by kernel_rfl) (by exact cells7' (block_below (below_drew1 _) hn1)) (fun hHeld_ => ?_)
    refine wpTill_take (i := 1) (v := ?vT1_1_0_) 13 rfl rfl (by kernel_rfl) (by kernel_rfl) (by kernel_rfl) (fun _ _ _ h => h) (Or.inl ⟨by kernel_rfl, ?hyT1_1_0_⟩) (by assumption) (by kernel_rfl) ?restT1_1_0_
    case hyT1_1_0_ => (intro W_ hS_; (try dsimp only at hS_); go_simp; (try (with_reducible rfl)))
    try simp only [Act.put, siA, scZ, scS]
    refine wpTill_take (i := 2) (v := ?vT1_2_0_) 14 rfl rfl (by kernel_rfl) (by kernel_rfl) (by kernel_rfl) (fun _ _ _ h => h) (Or.inl ⟨by kernel_rfl, ?hyT1_2_0_⟩) (by assumption) (by kernel_rfl) ?restT1_2_0_
    case hyT1_2_0_ => (intro W_ hS_; (try dsimp only at hS_); go_simp; (try (with_reducible rfl)))
    try simp only [Act.put, siA, scZ, scS]
    refine wpTill_take (i := 3) (v := ?vT1_3_0_) 15 rfl rfl (by kernel_rfl) (by kernel_rfl) (by kernel_rfl) (fun _ _ _ h => h) (Or.inl ⟨by kernel_rfl, ?hyT1_3_0_⟩) (by assumption) (by kernel_rfl) ?restT1_3_0_
    case hyT1_3_0_ => (intro W_ hS_; (try dsimp only at hS_); go_simp; (try (with_reducible rfl)))
    try simp only [Act.put, siA, scZ, scS]
    refine wpTill_take (i := 4) (v := ?vT1_4_0_) 16 rfl rfl (by kernel_rfl) (by kernel_rfl) (by kernel_rfl) (fun _ _ _ h => h) (Or.inl ⟨by kernel_rfl, ?hyT1_4_0_⟩) (by assumption) (by kernel_rfl) ?restT1_4_0_
    case hyT1_4_0_ => (intro W_ hS_; (try dsimp only at hS_); go_simp; (try (with_reducible rfl)))
    try simp only [Act.put, siA, scZ, scS]
    refine wpTill_take (i := 6) (v := ?vT1_6_0_) 18 rfl rfl (by kernel_rfl) (by kernel_rfl) (by kernel_rfl) (fun _ _ _ h => h) (Or.inl ⟨by kernel_rfl, ?hyT1_6_0_⟩) (by assumption) (by kernel_rfl) ?restT1_6_0_
    case hyT1_6_0_ => (intro W_ hS_; (try dsimp only at hS_); go_simp; (try (with_reducible rfl)))
    try simp only [Act.put, siA, scZ, scS]
    refine wpTill_take (i := 7) (v := ?vT1_7_0_) 19 rfl rfl (by kernel_rfl) (by kernel_rfl) (by kernel_rfl) (fun _ _ _ h => h) (Or.inl ⟨by kernel_rfl, ?hyT1_7_0_⟩) (by assumption) (by kernel_rfl) ?restT1_7_0_
    case hyT1_7_0_ => (intro W_ hS_; (try dsimp only at hS_); go_simp; (try (with_reducible rfl)))
    try simp only [Act.put, siA, scZ, scS]
    refine wpTill_take (i := 8) (v := ?vT1_8_0_) 20 rfl rfl (by kernel_rfl) (by kernel_rfl) (by kernel_rfl) (fun _ _ _ h => h) (Or.inl ⟨by kernel_rfl, ?hyT1_8_0_⟩) (by assumption) (by kernel_rfl) ?restT1_8_0_
    case hyT1_8_0_ => (intro W_ hS_; (try dsimp only at hS_); go_simp; (try (with_reducible rfl)))
    try simp only [Act.put, siA, scZ, scS]
    refine wpTill_take (i := 9) (v := ?vT1_9_0_) 21 rfl rfl (by kernel_rfl) (by kernel_rfl) (by kernel_rfl) (fun _ _ _ h => h) (Or.inl ⟨by kernel_rfl, ?hyT1_9_0_⟩) (by assumption) (by kernel_rfl) ?restT1_9_0_
    case hyT1_9_0_ => (intro W_ hS_; (try dsimp only at hS_); go_simp; (try (with_reducible rfl)))
    try simp only [Act.put, siA, scZ, scS]
    refine wpTill_take (i := 10) (v := ?vT1_10_0_) 22 rfl rfl (by kernel_rfl) (by kernel_rfl) (by kernel_rfl) (fun _ _ _ h => h) (Or.inl ⟨by kernel_rfl, ?hyT1_10_0_⟩) (by assumption) (by kernel_rfl) ?restT1_10_0_
    case hyT1_10_0_ => (intro W_ hS_; (try dsimp only at hS_); go_simp; (try (with_reducible rfl)))
    try simp only [Act.put, siA, scZ, scS]
    refine wpTill_ready (rs := [0]) (by kernel_rfl) (by simp) ?_
    refine (AllTill.cons rfl (fun K_ hK_ => ?_) AllTill.nil)
    go_simp
    go_wp2_with fail
    refine hK_.out _ _ (fun _ => by exact cells7' (block_below hBd2 hn1)) (fun hHeld_0_0 => ?_)
    replace hHeld_0_0 := hHeld_0_0 (by decide)
    clear hK_
    try simp only [Act.put, siA, scZ, scS]
    refine wpTill_ready (rs := [5]) (by kernel_rfl) (by simp) ?_
    refine (AllTill.cons rfl (fun K_ hK_ => ?_) AllTill.nil)
    refine step_append_fr rfl _ _ rfl w1.heap.size _ 0 [] rfl (own_to (fown_empty w1 _ _ rfl (Nat.le_refl _)) (below_drew1 _)) _ _ _ _ (fs.take k) rfl Htl.out (hsl.below hBd) (by omega) hBd2.size 17 rfl ?_
    intro A5 c5 w5 hown5 hc5 hB5
    simp only [Nat.zero_add, List.nil_append] at hown5 hc5 ⊢
    have hBk5 : Below w1.heap.size w1 w5 := hBd2.trans hB5
    have hB05 := below_then hT1 hBk5
    refine hK_.out _ _ (fun _ => by exact cells7' (block_below hBk5 hn1)) (fun hHeld_5_1 => ?_)
    replace hHeld_5_1 := hHeld_5_1 (by decide)
    clear hK_
    try simp only [Act.put, siA, scZ, scS]
    refine wpTill_ready (rs := [11]) (by kernel_rfl) (by simp) ?_
    refine (AllTill.cons rfl (fun K_ hK_ => ?_) AllTill.nil)
    refine step_append_fr rfl _ _ rfl w1.heap.size _ k (fs.take k) rfl hown5 _ _ _ _ [] rfl rfl (show FRow w5 w.heap.size _ [] from .inl rfl) (by omega) hBk5.size 23 rfl ?_
    intro A6 c6 w6 hown6 hc6 hB6
    have hBk6 : Below w1.heap.size w1 w6 := hBk5.trans hB6
    refine hK_.out _ _ (fun _ => by exact cells7' (block_below hBk6 hn1)) (fun hHeld_11_2 => ?_)
    replace hHeld_11_2 := hHeld_11_2 (by decide)
    clear hK_
    try simp only [Act.put, siA, scZ, scS]
    refine wpTill_take (i := 12) (v := ?vT1_12_3_0_5_11) 24 rfl rfl (by kernel_rfl) (by kernel_rfl) (by kernel_rfl) (fun _ _ _ h => h) (Or.inl ⟨by kernel_rfl, ?hyT1_12_3_0_5_11⟩) (by assumption) (by kernel_rfl) ?restT1_12_3_0_5_11
    case hyT1_12_3_0_5_11 => (intro W_ hS_; (try dsimp only at hS_); go_simp; (try (with_reducible rfl)))
    try simp only [Act.put, siA, scZ, scS]
    refine wpTill_ready (rs := [13]) (by kernel_rfl) (by simp) ?_
    refine (AllTill.cons rfl (fun K_ hK_ => ?_) AllTill.nil)
    obtain ⟨⟨nc0, nc1, nc2, nc3, nc4, nc5, nc6⟩, nf0, nf1, nf2, nf3, nf4, nf5, nf6⟩ := cells7 (block_below hBk6 hn1)
    go_simp
    go_wp2_with fail
    clear nc0 nc1 nc2 nc3 nc4 nc5 nc6 nf0 nf1 nf2 nf3 nf4 nf5 nf6
    refine hK_.out _ _ (fun h_ => absurd rfl h_) (fun hHeld_13_3 => ?_)
    clear hK_
    try simp only [Act.put, siA, scZ, scS]
    refine wpTill_done (by kernel_rfl) ?_ _
    skip
    have hT40 := below_then hT1 hBk6
    have hn40 := block_below hBk6 hn1
    have hr40 := block_below hBk6 hr1
    have hle40 := hT1.size
    have hlr40 := (Array.getElem?_eq_some_iff.1 hr1).1
    have hs40 : FSl w6 (Gap P w.heap.size (w.heap.size + 2)) A6 k c6 Gs := FSl.own (show FOwn w6 _ A6 _ c6 (fs.take k ++ fs.drop (k + 1)) by rw [Hdn.out]; exact hown6) ((Hds.out.mono (fun b hb hp => ⟨hp, .inl hb⟩)).to hT40) (by omega) (fun b hb => gap_up hP (by omega) b (by omega))
    clear hown5 hown6 hc5 hc6 hB5 hB6 hBk5 hBk6 hB05 hBd hBd2 hn1 hr1 hT1 hle40 hlr40
    obtain ⟨w41, hw41⟩ : ∃ w_, w6.setCell ⟨w.heap.size, 0, none⟩ (.slice A6 k c6) = w_ := ⟨_, rfl⟩
    have hG41 : w6.grownBy w41 (some w.heap.size) := by rw [← hw41]; exact grown_setAt _ _ _ _
    have hT41 := below_g hT40 hG41 (by omega)
    have hn41 : w41.heap[w.heap.size]? = some (.cells #[.slice A6 k c6, .slice la lm lc, .int .i64 kk.t, .int .i64 kk.r, .int .i64 kk.s, .int .i64 kk.q, .slice ga gm gc] 49) := by rw [← hw41]; exact set0_obj7 hn40 _
    have hr41 := other_g hG41 hr40 (by omega)
    have hs41 := FSl.grow hs40 hG41 (gap_not (by omega) (by omega))
    rw [hw41]
    clear hw41 hG41 hT40 hn40 hr40 hs40
    obtain ⟨nc0, nc1, nc2, nc3, nc4, nc5, nc6⟩ := cells7' hn41
    obtain ⟨rc0, rc1, rc2, rc3, rc4, rc5, rc6⟩ := cells7' hr41
    go_wp2_with fail
    clear nc0 nc1 nc2 nc3 nc4 nc5 nc6 rc0 rc1 rc2 rc3 rc4 rc5 rc6
    refine (refStep_any kk d 1 Hd.out hkk w41).mono ?_
    rintro e w42 ⟨rfl, hB42⟩
    have hT42 := below_then hT41 hB42
    have hn42 := block_below hB42 hn41
    have hr42 := block_below hB42 hr41
    have hs42 := FSl.to hs41 hB42
    clear hT41 hn41 hr41 hs41 hB42
    obtain ⟨⟨nc0, nc1, nc2, nc3, nc4, nc5, nc6⟩, nf0, nf1, nf2, nf3, nf4, nf5, nf6⟩ := cells7 hn42
    obtain ⟨⟨rc0, rc1, rc2, rc3, rc4, rc5, rc6⟩, rf0, rf1, rf2, rf3, rf4, rf5, rf6⟩ := cells7 hr42
    go_wp2_with fail
    clear nc0 nc1 nc2 nc3 nc4 nc5 nc6 nf0 nf1 nf2 nf3 nf4 nf5 nf6 rc0 rc1 rc2 rc3 rc4 rc5 rc6 rf0 rf1 rf2 rf3 rf4 rf5 rf6
    exact bodyPost_ret (v := NV.v ⟨A6, k, c6, la, lm, lc, d, ga, gm, gc⟩) (results_n (n := ⟨A6, k, c6, la, lm, lc, d, ga, gm, gc⟩) rfl _ rfl (set7_obj (other_g (set25_grown _ _ _ _ _ _) hr42 (by omega)) _ _ _ _ _ _ _)) rfl ⟨⟨A6, k, c6, la, lm, lc, d, ga, gm, gc⟩, rfl, ⟨((hs42.grow (set25_grown _ _ _ _ _ _) (gap_not (Nat.le_refl _) (by omega))).grow (set7_grown _ _ _ _ _ _ _ _ _) (gap_not (by omega) (by omega))).ungap, hnis.l.to (below_g (below_g hT42 (set25_grown _ _ _ _ _ _) (Nat.le_refl _)) (set7_grown _ _ _ _ _ _ _ _ _) (by omega)), HD.out, hnis.g.to (below_g (below_g hT42 (set25_grown _ _ _ _ _ _) (Nat.le_refl _)) (set7_grown _ _ _ _ _ _ _ _ _) (by omega))⟩, (below_g (below_g hT42 (set25_grown _ _ _ _ _ _) (Nat.le_refl _)) (set7_grown _ _ _ _ _ _ _ _ _) (by omega))⟩
  obtain ⟨w0, hw0⟩ : ∃ w0, ((w.alloc (.cells #[.slice (some ad) qm qc, .slice la lm lc, .int .i64 kk.t, .int .i64 kk.r, .int .i64 kk.s, .int .i64 kk.q, .slice ga gm gc] 49)).alloc (.cells #[.slice none 0 0, .slice none 0 0, .int .i64 0, .int .i64 0, .int .i64 0, .int .i64 0, .slice none 0 0] 49)) = w0 := ⟨_, rfl⟩
  have hT0 : Below w.heap.size w w0 := by rw [← hw0]; exact below_then (below_alloc1 _ _) (below_alloc1 _ _)
  have hn0 : w0.heap[w.heap.size]? = some (.cells #[.slice (some ad) qm qc, .slice la lm lc, .int .i64 kk.t, .int .i64 kk.r, .int .i64 kk.s, .int .i64 kk.q, .slice ga gm gc] 49) := by rw [← hw0]; exact block_below (below_alloc1 _ _) (World.alloc_heap_new _ _)
  have hr0 : w0.heap[(w.heap.size + 1)]? = some (.cells #[.slice none 0 0, .slice none 0 0, .int .i64 0, .int .i64 0, .int .i64 0, .int .i64 0, .slice none 0 0] 49) := by rw [← hw0]; exact alloc_at _ _ (by simp)
  have hs0 : w0.heap.size = w.heap.size + 2 := by rw [← hw0]; simp
  have Hs0 := Lib.hid hs0
  clear hs0
  obtain ⟨nc0, nc1, nc2, nc3, nc4, nc5, nc6⟩ := cells7' hn0
  obtain ⟨rc0, rc1, rc2, rc3, rc4, rc5, rc6⟩ := cells7' hr0
  go_enter Tryz.func28, Tryz.ntmps28
  go_wp2_with fail
  clear nc0 nc1 nc2 nc3 nc4 nc5 nc6 rc0 rc1 rc2 rc3 rc4 rc5 rc6
  clear hw0
  have hZ0 := Below.refl w0.heap.size w0
  refine (place_c (n := ⟨some ad, qm, qc, la, lm, lc, kk, ga, gm, gc⟩) (h.to hT0) Hok.out.okq (by show qm ≤ 1000; omega) k Hk.out).mono ?_
  rintro e w1 ⟨rfl, hB1⟩
  have hT1 := below_then hT0 hB1
  have hZ1 := below_then hZ0 hB1
  clear hZ0
  have hn1 := block_below hB1 hn0
  have hr1 := block_below hB1 hr0
  clear hT0 hn0 hr0  hB1
  obtain ⟨nc0, nc1, nc2, nc3, nc4, nc5, nc6⟩ := cells7' hn1
  obtain ⟨rc0, rc1, rc2, rc3, rc4, rc5, rc6⟩ := cells7' hr1
  go_wp2_with fail
  clear nc0 nc1 nc2 nc3 nc4 nc5 nc6 rc0 rc1 rc2 rc3 rc4 rc5 rc6
  have hBd2 : Below w1.heap.size w1 (w1.alloc (.cells #[] 34)).drew := below_then (below_alloc1 _ _) (below_drew1 _)
  have hBd := below_then hT1 hBd2
  refine wp_region_till 13 (S := fun W => W.cell? ⟨w.heap.size, 0, none⟩ = some (.slice (some ad) qm qc) ∧ W.cell? ⟨w.heap.size, 1, none⟩ = some (.slice la lm lc) ∧ W.cell? ⟨w.heap.size, 2, none⟩ = some (.int .i64 kk.t) ∧ W.cell? ⟨w.heap.size, 3, none⟩ = some (.int .i64 kk.r) ∧ W.cell? ⟨w.heap.size, 4, none⟩ = some (.int .i64 kk.s) ∧ W.cell? ⟨w.heap.size, 5, none⟩ = some (.int .i64 kk.q) ∧ W.cell? ⟨w.heap.size, 6, none⟩ = some (.slice ga gm gc)) (by kernel_rfl) (by exact cells7' (block_below (below_drew1 _) hn1)) (fun hHeld_ => ?_)
  refine wpTill_take (i := 1) (v := ?vT2_1_0_) 13 rfl rfl (by kernel_rfl) (by kernel_rfl) (by kernel_rfl) (fun _ _ _ h => h) (Or.inl ⟨by kernel_rfl, ?hyT2_1_0_⟩) (by assumption) (by kernel_rfl) ?restT2_1_0_
  case hyT2_1_0_ => (intro W_ hS_; (try dsimp only at hS_); go_simp; (try (with_reducible rfl)))
  try simp only [Act.put, siA, scZ, scS]
  refine wpTill_take (i := 2) (v := ?vT2_2_0_) 14 rfl rfl (by kernel_rfl) (by kernel_rfl) (by kernel_rfl) (fun _ _ _ h => h) (Or.inl ⟨by kernel_rfl, ?hyT2_2_0_⟩) (by assumption) (by kernel_rfl) ?restT2_2_0_
  case hyT2_2_0_ => (intro W_ hS_; (try dsimp only at hS_); go_simp; (try (with_reducible rfl)))
  try simp only [Act.put, siA, scZ, scS]
  refine wpTill_take (i := 3) (v := ?vT2_3_0_) 15 rfl rfl (by kernel_rfl) (by kernel_rfl) (by kernel_rfl) (fun _ _ _ h => h) (Or.inl ⟨by kernel_rfl, ?hyT2_3_0_⟩) (by assumption) (by kernel_rfl) ?restT2_3_0_
  case hyT2_3_0_ => (intro W_ hS_; (try dsimp only at hS_); go_simp; (try (with_reducible rfl)))
  try simp only [Act.put, siA, scZ, scS]
  refine wpTill_take (i := 4) (v := ?vT2_4_0_) 16 rfl rfl (by kernel_rfl) (by kernel_rfl) (by kernel_rfl) (fun _ _ _ h => h) (Or.inl ⟨by kernel_rfl, ?hyT2_4_0_⟩) (by assumption) (by kernel_rfl) ?restT2_4_0_
  case hyT2_4_0_ => (intro W_ hS_; (try dsimp only at hS_); go_simp; (try (with_reducible rfl)))
  try simp only [Act.put, siA, scZ, scS]
  refine wpTill_take (i := 6) (v := ?vT2_6_0_) 18 rfl rfl (by kernel_rfl) (by kernel_rfl) (by kernel_rfl) (fun _ _ _ h => h) (Or.inl ⟨by kernel_rfl, ?hyT2_6_0_⟩) (by assumption) (by kernel_rfl) ?restT2_6_0_
  case hyT2_6_0_ => (intro W_ hS_; (try dsimp only at hS_); go_simp; (try (with_reducible rfl)))
  try simp only [Act.put, siA, scZ, scS]
  refine wpTill_take (i := 7) (v := ?vT2_7_0_) 19 rfl rfl (by kernel_rfl) (by kernel_rfl) (by kernel_rfl) (fun _ _ _ h => h) (Or.inl ⟨by kernel_rfl, ?hyT2_7_0_⟩) (by assumption) (by kernel_rfl) ?restT2_7_0_
  case hyT2_7_0_ => (intro W_ hS_; (try dsimp only at hS_); go_simp; (try (with_reducible rfl)))
  try simp only [Act.put, siA, scZ, scS]
  refine wpTill_take (i := 8) (v := ?vT2_8_0_) 20 rfl rfl (by kernel_rfl) (by kernel_rfl) (by kernel_rfl) (fun _ _ _ h => h) (Or.inl ⟨by kernel_rfl, ?hyT2_8_0_⟩) (by assumption) (by kernel_rfl) ?restT2_8_0_
  case hyT2_8_0_ => (intro W_ hS_; (try dsimp only at hS_); go_simp; (try (with_reducible rfl)))
  try simp only [Act.put, siA, scZ, scS]
  refine wpTill_take (i := 9) (v := ?vT2_9_0_) 21 rfl rfl (by kernel_rfl) (by kernel_rfl) (by kernel_rfl) (fun _ _ _ h => h) (Or.inl ⟨by kernel_rfl, ?hyT2_9_0_⟩) (by assumption) (by kernel_rfl) ?restT2_9_0_
  case hyT2_9_0_ => (intro W_ hS_; (try dsimp only at hS_); go_simp; (try (with_reducible rfl)))
  try simp only [Act.put, siA, scZ, scS]
  refine wpTill_take (i := 10) (v := ?vT2_10_0_) 22 rfl rfl (by kernel_rfl) (by kernel_rfl) (by kernel_rfl) (fun _ _ _ h => h) (Or.inl ⟨by kernel_rfl, ?hyT2_10_0_⟩) (by assumption) (by kernel_rfl) ?restT2_10_0_
  case hyT2_10_0_ => (intro W_ hS_; (try dsimp only at hS_); go_simp; (try (with_reducible rfl)))
  try simp only [Act.put, siA, scZ, scS]
  refine wpTill_ready (rs := [0]) (by kernel_rfl) (by simp) ?_
  refine (AllTill.cons rfl (fun K_ hK_ => ?_) AllTill.nil)
  go_simp
  go_wp2_with fail
  refine hK_.out _ _ (fun _ => by exact cells7' (block_below hBd2 hn1)) (fun hHeld_0_0 => ?_)
  replace hHeld_0_0 := hHeld_0_0 (by decide)
  clear hK_
  try simp only [Act.put, siA, scZ, scS]
  refine wpTill_ready (rs := [5]) (by kernel_rfl) (by simp) ?_
  refine (AllTill.cons rfl (fun K_ hK_ => ?_) AllTill.nil)
  refine step_append_fr rfl _ _ rfl w1.heap.size _ 0 [] rfl (own_to (fown_empty w1 _ _ rfl (Nat.le_refl _)) (below_drew1 _)) _ _ _ _ (fs.take k) rfl Htl.out (hsl.below hBd) (by omega) hBd2.size 17 rfl ?_
  intro A5 c5 w5 hown5 hc5 hB5
  simp only [Nat.zero_add, List.nil_append] at hown5 hc5 ⊢
  have hBk5 : Below w1.heap.size w1 w5 := hBd2.trans hB5
  have hB05 := below_then hT1 hBk5
  refine hK_.out _ _ (fun _ => by exact cells7' (block_below hBk5 hn1)) (fun hHeld_5_1 => ?_)
  replace hHeld_5_1 := hHeld_5_1 (by decide)
  clear hK_
  try simp only [Act.put, siA, scZ, scS]
  refine wpTill_ready (rs := [11]) (by kernel_rfl) (by simp) ?_
  refine (AllTill.cons rfl (fun K_ hK_ => ?_) AllTill.nil)
  refine step_append_fr rfl _ _ rfl w1.heap.size _ k (fs.take k) rfl hown5 _ _ _ _ (fs.drop (k + 1)) rfl Hdl.out (by first | exact hsr.below hB05 | exact hsr'.below hB05) (by omega) hBk5.size 23 rfl ?_
  intro A6 c6 w6 hown6 hc6 hB6
  have hBk6 : Below w1.heap.size w1 w6 := hBk5.trans hB6
  refine hK_.out _ _ (fun _ => by exact cells7' (block_below hBk6 hn1)) (fun hHeld_11_2 => ?_)
  replace hHeld_11_2 := hHeld_11_2 (by decide)
  clear hK_
  try simp only [Act.put, siA, scZ, scS]
  refine wpTill_take (i := 12) (v := ?vT2_12_3_0_5_11) 24 rfl rfl (by kernel_rfl) (by kernel_rfl) (by kernel_rfl) (fun _ _ _ h => h) (Or.inl ⟨by kernel_rfl, ?hyT2_12_3_0_5_11⟩) (by assumption) (by kernel_rfl) ?restT2_12_3_0_5_11
  case hyT2_12_3_0_5_11 => (intro W_ hS_; (try dsimp only at hS_); go_simp; (try (with_reducible rfl)))
  try simp only [Act.put, siA, scZ, scS]
  refine wpTill_ready (rs := [13]) (by kernel_rfl) (by simp) ?_
  refine (AllTill.cons rfl (fun K_ hK_ => ?_) AllTill.nil)
  obtain ⟨⟨nc0, nc1, nc2, nc3, nc4, nc5, nc6⟩, nf0, nf1, nf2, nf3, nf4, nf5, nf6⟩ := cells7 (block_below hBk6 hn1)
  go_simp
  go_wp2_with fail
  clear nc0 nc1 nc2 nc3 nc4 nc5 nc6 nf0 nf1 nf2 nf3 nf4 nf5 nf6
  refine hK_.out _ _ (fun h_ => absurd rfl h_) (fun hHeld_13_3 => ?_)
  clear hK_
  try simp only [Act.put, siA, scZ, scS]
  refine wpTill_done (by kernel_rfl) ?_ _
  skip
  have hT40 := below_then hT1 hBk6
  have hn40 := block_below hBk6 hn1
  have hr40 := block_below hBk6 hr1
  have hle40 := hT1.size
  have hlr40 := (Array.getElem?_eq_some_iff.1 hr1).1
  have hs40 : FSl w6 (Gap P w.heap.size (w.heap.size + 2)) A6 (k + (qm - (k + 1))) c6 Gs := FSl.own hown6 ((Hds.out.mono (fun b hb hp => ⟨hp, .inl hb⟩)).to hT40) (by omega) (fun b hb => gap_up hP (by omega) b (by omega))
  clear hown5 hown6 hc5 hc6 hB5 hB6 hBk5 hBk6 hB05 hBd hBd2 hn1 hr1 hT1 hle40 hlr40
  obtain ⟨w41, hw41⟩ : ∃ w_, w6.setCell ⟨w.heap.size, 0, none⟩ (.slice A6 (k + (qm - (k + 1))) c6) = w_ := ⟨_, rfl⟩
  have hG41 : w6.grownBy w41 (some w.heap.size) := by rw [← hw41]; exact grown_setAt _ _ _ _
  have hT41 := below_g hT40 hG41 (by omega)
  have hn41 : w41.heap[w.heap.size]? = some (.cells #[.slice A6 (k + (qm - (k + 1))) c6, .slice la lm lc, .int .i64 kk.t, .int .i64 kk.r, .int .i64 kk.s, .int .i64 kk.q, .slice ga gm gc] 49) := by rw [← hw41]; exact set0_obj7 hn40 _
  have hr41 := other_g hG41 hr40 (by omega)
  have hs41 := FSl.grow hs40 hG41 (gap_not (by omega) (by omega))
  rw [hw41]
  clear hw41 hG41 hT40 hn40 hr40 hs40
  obtain ⟨nc0, nc1, nc2, nc3, nc4, nc5, nc6⟩ := cells7' hn41
  obtain ⟨rc0, rc1, rc2, rc3, rc4, rc5, rc6⟩ := cells7' hr41
  go_wp2_with fail
  clear nc0 nc1 nc2 nc3 nc4 nc5 nc6 rc0 rc1 rc2 rc3 rc4 rc5 rc6
  refine (refStep_any kk d 1 Hd.out hkk w41).mono ?_
  rintro e w42 ⟨rfl, hB42⟩
  have hT42 := below_then hT41 hB42
  have hn42 := block_below hB42 hn41
  have hr42 := block_below hB42 hr41
  have hs42 := FSl.to hs41 hB42
  clear hT41 hn41 hr41 hs41 hB42
  obtain ⟨⟨nc0, nc1, nc2, nc3, nc4, nc5, nc6⟩, nf0, nf1, nf2, nf3, nf4, nf5, nf6⟩ := cells7 hn42
  obtain ⟨⟨rc0, rc1, rc2, rc3, rc4, rc5, rc6⟩, rf0, rf1, rf2, rf3, rf4, rf5, rf6⟩ := cells7 hr42
  go_wp2_with fail
  clear nc0 nc1 nc2 nc3 nc4 nc5 nc6 nf0 nf1 nf2 nf3 nf4 nf5 nf6 rc0 rc1 rc2 rc3 rc4 rc5 rc6 rf0 rf1 rf2 rf3 rf4 rf5 rf6
  exact bodyPost_ret (v := NV.v ⟨A6, (k + (qm - (k + 1))), c6, la, lm, lc, d, ga, gm, gc⟩) (results_n (n := ⟨A6, (k + (qm - (k + 1))), c6, la, lm, lc, d, ga, gm, gc⟩) rfl _ rfl (set7_obj (other_g (set25_grown _ _ _ _ _ _) hr42 (by omega)) _ _ _ _ _ _ _)) rfl ⟨⟨A6, (k + (qm - (k + 1))), c6, la, lm, lc, d, ga, gm, gc⟩, rfl, ⟨((hs42.grow (set25_grown _ _ _ _ _ _) (gap_not (Nat.le_refl _) (by omega))).grow (set7_grown _ _ _ _ _ _ _ _ _) (gap_not (by omega) (by omega))).ungap, hnis.l.to (below_g (below_g hT42 (set25_grown _ _ _ _ _ _) (Nat.le_refl _)) (set7_grown _ _ _ _ _ _ _ _ _) (by omega)), HD.out, hnis.g.to (below_g (below_g hT42 (set25_grown _ _ _ _ _ _) (Nat.le_refl _)) (set7_grown _ _ _ _ _ _ _ _ _) (by omega))⟩, (below_g (below_g hT42 (set25_grown _ _ _ _ _ _) (Nat.le_refl _)) (set7_grown _ _ _ _ _ _ _ _ _) (by omega))⟩
theorem refSent_c {w : World} {P : Nat → Prop} {n : NV} {N : NC} (h : NIs w P n N) (hok : OkN N) (hP : ∀ b, w.heap.size ≤ b → P b) (ok : Bool) (M : NC) (hM : sentN N ok = M) :
    Calls Tryz.prog 28 #[n.v, .bool ok] w fun e w' => ∃ n' : NV, e = .returned n'.v ∧ NIs w' P n' M ∧ Below w.heap.size w w' := by
  subst hM
  cases hq : hasN N with
  | false => rw [show sentN N ok = N by unfold sentN; rw [hq]; rfl]; exact refSent_none h hok hP ok hq
  | true =>
    cases ok with
    | false => rw [show sentN N false = ⟨N.q, N.l, stepV N.k 3, N.g⟩ by unfold sentN; rw [hq]; rfl]; exact refSent_no h hok hP hq
    | true => rw [show sentN N true = ⟨N.q.eraseIdx (atN N), N.l, stepV N.k 1, N.g⟩ by unfold sentN; rw [hq]; rfl]; exact refSent_yes h hok hP hq
end Go.Proofs.YtcifjccojmfpaaaGreat

namespace Go.Proofs.YtcifjccojmfpaaaGreat
open Go.RowKit
set_option linter.unusedVariables false
set_option linter.unusedSimpArgs false
theorem heard_c {w : World} {P : Nat → Prop} {n : NV} {N : NC} {f : FV} {F : FC} (h : NIs w P n N) (hf : FIs w P f F) (hok : OkN N) (hr : rightC F = true) (hP : ∀ b, w.heap.size ≤ b → P b) (ok long : Bool) (M : NC) (hM : heardN N F ok long = M) :
    Calls Tryz.prog 71 #[n.v, f.v, .bool ok, .bool long] w fun e w' => ∃ n' : NV, e = .returned n'.v ∧ NIs w' P n' M ∧ Below w.heap.size w w' := by
  have hm := gm_le h hok
  have hlm := lm_le h hok
  have hkk := okC_of_nis h hok
  have Hok := Lib.hid hok
  have Hd := Lib.hid (right_len hr)
  unfold heardN at hM
  clear hr hok
  by_cases hs : n.k.s = 3
  · skip
    rw [if_pos (by rw [← h.k]; exact hs)] at hM
    obtain rfl : N = M := hM
    have Hs := Lib.hid hs
    clear hs
    obtain ⟨w0, hw0⟩ : ∃ w0, (((w.alloc (.cells #[.slice n.qa n.qm n.qc, .slice n.la n.lm n.lc, .int .i64 n.k.t, .int .i64 n.k.r, .int .i64 n.k.s, .int .i64 n.k.q, .slice n.ga n.gm n.gc] 49)).alloc (.cells #[.bool f.x, .int .i64 f.i, .bool f.r, .int .i64 f.n, .slice f.a f.m f.c] 34)).alloc (.cells #[.slice none 0 0, .slice none 0 0, .int .i64 0, .int .i64 0, .int .i64 0, .int .i64 0, .slice none 0 0] 49)) = w0 := ⟨_, rfl⟩
    have hT0 : Below w.heap.size w w0 := by rw [← hw0]; exact below_then (below_then (below_alloc1 _ _) (below_alloc1 _ _)) (below_alloc1 _ _)
    have hn0 : w0.heap[w.heap.size]? = some (.cells #[.slice n.qa n.qm n.qc, .slice n.la n.lm n.lc, .int .i64 n.k.t, .int .i64 n.k.r, .int .i64 n.k.s, .int .i64 n.k.q, .slice n.ga n.gm n.gc] 49) := by rw [← hw0]; exact block_below (below_alloc1 _ _) (block_below (below_alloc1 _ _) (World.alloc_heap_new _ _))
    have hf0 : w0.heap[(w.heap.size + 1)]? = some (.cells #[.bool f.x, .int .i64 f.i, .bool f.r, .int .i64 f.n, .slice f.a f.m f.c] 34) := by rw [← hw0]; exact block_below (below_alloc1 _ _) (alloc_at _ _ (by simp))
    have hr0 : w0.heap[(w.heap.size + 2)]? = some (.cells #[.slice none 0 0, .slice none 0 0, .int .i64 0, .int .i64 0, .int .i64 0, .int .i64 0, .slice none 0 0] 49) := by rw [← hw0]; exact alloc_at _ _ (by simp)
    have hs0 : w0.heap.size = w.heap.size + 3 := by rw [← hw0]; simp
    have Hs0 := Lib.hid hs0
    clear hs0
    obtain ⟨nc0, nc1, nc2, nc3, nc4, nc5, nc6⟩ := cells7' hn0
    obtain ⟨fc0, fc1, fc2, fc3, fc4⟩ := cells5' hf0
    obtain ⟨rc0, rc1, rc2, rc3, rc4, rc5, rc6⟩ := cells7' hr0
    go_enter Tryz.func71, Tryz.ntmps71
    go_wp2_with fail
    clear nc0 nc1 nc2 nc3 nc4 nc5 nc6 fc0 fc1 fc2 fc3 fc4 rc0 rc1 rc2 rc3 rc4 rc5 rc6
    clear hw0
    have hZ0 := Below.refl w0.heap.size w0
    refine (isOff_c n true (by simpa using Hs.out) w0).mono ?_
    rintro e w1 ⟨rfl, hB1⟩
    have hT1 := below_then hT0 hB1
    have hZ1 := below_then hZ0 hB1
    clear hZ0
    have hn1 := block_below hB1 hn0
    have hf1 := block_below hB1 hf0
    have hr1 := block_below hB1 hr0
    clear hT0 hn0 hf0 hr0  hB1
    obtain ⟨nc0, nc1, nc2, nc3, nc4, nc5, nc6⟩ := cells7' hn1
    obtain ⟨fc0, fc1, fc2, fc3, fc4⟩ := cells5' hf1
    obtain ⟨⟨rc0, rc1, rc2, rc3, rc4, rc5, rc6⟩, rf0, rf1, rf2, rf3, rf4, rf5, rf6⟩ := cells7 hr1
    go_wp2_with fail
    clear nc0 nc1 nc2 nc3 nc4 nc5 nc6 fc0 fc1 fc2 fc3 fc4 rc0 rc1 rc2 rc3 rc4 rc5 rc6 rf0 rf1 rf2 rf3 rf4 rf5 rf6
    exact bodyPost_ret (v := NV.v n) (results_n (n := n) rfl _ rfl (set7_obj hr1 _ _ _ _ _ _ _)) rfl (⟨n, rfl, h.to (below_g hT1 (set7_grown _ _ _ _ _ _ _ _ _) (by omega)), (below_g hT1 (set7_grown _ _ _ _ _ _ _ _ _) (by omega))⟩)
  rw [if_neg (by rw [← h.k]; exact hs)] at hM
  have Hs := Lib.hid hs
  clear hs
  cases ok
  · skip
    cases long
    · skip
      obtain ⟨d, hd⟩ : ∃ d, stepV n.k 4 = d := ⟨_, rfl⟩
      have Hd2 := Lib.hid hd
      obtain rfl : (⟨N.q, N.l, d, N.g⟩ : NC) = M := by rw [← hM, ← hd, h.k]; rfl
      clear hd hM
      obtain ⟨w0, hw0⟩ : ∃ w0, (((w.alloc (.cells #[.slice n.qa n.qm n.qc, .slice n.la n.lm n.lc, .int .i64 n.k.t, .int .i64 n.k.r, .int .i64 n.k.s, .int .i64 n.k.q, .slice n.ga n.gm n.gc] 49)).alloc (.cells #[.bool f.x, .int .i64 f.i, .bool f.r, .int .i64 f.n, .slice f.a f.m f.c] 34)).alloc (.cells #[.slice none 0 0, .slice none 0 0, .int .i64 0, .int .i64 0, .int .i64 0, .int .i64 0, .slice none 0 0] 49)) = w0 := ⟨_, rfl⟩
      have hT0 : Below w.heap.size w w0 := by rw [← hw0]; exact below_then (below_then (below_alloc1 _ _) (below_alloc1 _ _)) (below_alloc1 _ _)
      have hn0 : w0.heap[w.heap.size]? = some (.cells #[.slice n.qa n.qm n.qc, .slice n.la n.lm n.lc, .int .i64 n.k.t, .int .i64 n.k.r, .int .i64 n.k.s, .int .i64 n.k.q, .slice n.ga n.gm n.gc] 49) := by rw [← hw0]; exact block_below (below_alloc1 _ _) (block_below (below_alloc1 _ _) (World.alloc_heap_new _ _))
      have hf0 : w0.heap[(w.heap.size + 1)]? = some (.cells #[.bool f.x, .int .i64 f.i, .bool f.r, .int .i64 f.n, .slice f.a f.m f.c] 34) := by rw [← hw0]; exact block_below (below_alloc1 _ _) (alloc_at _ _ (by simp))
      have hr0 : w0.heap[(w.heap.size + 2)]? = some (.cells #[.slice none 0 0, .slice none 0 0, .int .i64 0, .int .i64 0, .int .i64 0, .int .i64 0, .slice none 0 0] 49) := by rw [← hw0]; exact alloc_at _ _ (by simp)
      have hs0 : w0.heap.size = w.heap.size + 3 := by rw [← hw0]; simp
      have Hs0 := Lib.hid hs0
      clear hs0
      obtain ⟨nc0, nc1, nc2, nc3, nc4, nc5, nc6⟩ := cells7' hn0
      obtain ⟨fc0, fc1, fc2, fc3, fc4⟩ := cells5' hf0
      obtain ⟨rc0, rc1, rc2, rc3, rc4, rc5, rc6⟩ := cells7' hr0
      go_enter Tryz.func71, Tryz.ntmps71
      go_wp2_with fail
      clear nc0 nc1 nc2 nc3 nc4 nc5 nc6 fc0 fc1 fc2 fc3 fc4 rc0 rc1 rc2 rc3 rc4 rc5 rc6
      clear hw0
      have hZ0 := Below.refl w0.heap.size w0
      refine (isOff_c n false (by simpa using Hs.out) w0).mono ?_
      rintro e w1 ⟨rfl, hB1⟩
      have hT1 := below_then hT0 hB1
      have hZ1 := below_then hZ0 hB1
      clear hZ0
      have hn1 := block_below hB1 hn0
      have hf1 := block_below hB1 hf0
      have hr1 := block_below hB1 hr0
      clear hT0 hn0 hf0 hr0  hB1
      obtain ⟨nc0, nc1, nc2, nc3, nc4, nc5, nc6⟩ := cells7' hn1
      obtain ⟨fc0, fc1, fc2, fc3, fc4⟩ := cells5' hf1
      obtain ⟨rc0, rc1, rc2, rc3, rc4, rc5, rc6⟩ := cells7' hr1
      go_wp2_with fail
      clear nc0 nc1 nc2 nc3 nc4 nc5 nc6 fc0 fc1 fc2 fc3 fc4 rc0 rc1 rc2 rc3 rc4 rc5 rc6
      refine (counted_c n d 4 Hd2.out hkk w1).mono ?_
      rintro e w2 ⟨rfl, hB2⟩
      have hT2 := below_then hT1 hB2
      have hZ2 := below_then hZ1 hB2
      clear hZ1
      have hn2 := block_below hB2 hn1
      have hf2 := block_below hB2 hf1
      have hr2 := block_below hB2 hr1
      clear hT1 hn1 hf1 hr1  hB2
      obtain ⟨nc0, nc1, nc2, nc3, nc4, nc5, nc6⟩ := cells7' hn2
      obtain ⟨fc0, fc1, fc2, fc3, fc4⟩ := cells5' hf2
      obtain ⟨⟨rc0, rc1, rc2, rc3, rc4, rc5, rc6⟩, rf0, rf1, rf2, rf3, rf4, rf5, rf6⟩ := cells7 hr2
      go_wp2_with fail
      clear nc0 nc1 nc2 nc3 nc4 nc5 nc6 fc0 fc1 fc2 fc3 fc4 rc0 rc1 rc2 rc3 rc4 rc5 rc6 rf0 rf1 rf2 rf3 rf4 rf5 rf6
      exact bodyPost_ret (v := NV.v ⟨n.qa, n.qm, n.qc, n.la, n.lm, n.lc, d, n.ga, n.gm, n.gc⟩) (results_n (n := ⟨n.qa, n.qm, n.qc, n.la, n.lm, n.lc, d, n.ga, n.gm, n.gc⟩) rfl _ rfl (set7_obj hr2 _ _ _ _ _ _ _)) rfl (⟨⟨n.qa, n.qm, n.qc, n.la, n.lm, n.lc, d, n.ga, n.gm, n.gc⟩, rfl, ⟨h.q.to (below_g hT2 (set7_grown _ _ _ _ _ _ _ _ _) (by omega)), h.l.to (below_g hT2 (set7_grown _ _ _ _ _ _ _ _ _) (by omega)), rfl, h.g.to (below_g hT2 (set7_grown _ _ _ _ _ _ _ _ _) (by omega))⟩, (below_g hT2 (set7_grown _ _ _ _ _ _ _ _ _) (by omega))⟩)
    obtain ⟨d, hd⟩ : ∃ d, stepV n.k 5 = d := ⟨_, rfl⟩
    have Hd2 := Lib.hid hd
    obtain rfl : (⟨N.q, N.l, d, N.g⟩ : NC) = M := by rw [← hM, ← hd, h.k]; rfl
    clear hd hM
    obtain ⟨w0, hw0⟩ : ∃ w0, (((w.alloc (.cells #[.slice n.qa n.qm n.qc, .slice n.la n.lm n.lc, .int .i64 n.k.t, .int .i64 n.k.r, .int .i64 n.k.s, .int .i64 n.k.q, .slice n.ga n.gm n.gc] 49)).alloc (.cells #[.bool f.x, .int .i64 f.i, .bool f.r, .int .i64 f.n, .slice f.a f.m f.c] 34)).alloc (.cells #[.slice none 0 0, .slice none 0 0, .int .i64 0, .int .i64 0, .int .i64 0, .int .i64 0, .slice none 0 0] 49)) = w0 := ⟨_, rfl⟩
    have hT0 : Below w.heap.size w w0 := by rw [← hw0]; exact below_then (below_then (below_alloc1 _ _) (below_alloc1 _ _)) (below_alloc1 _ _)
    have hn0 : w0.heap[w.heap.size]? = some (.cells #[.slice n.qa n.qm n.qc, .slice n.la n.lm n.lc, .int .i64 n.k.t, .int .i64 n.k.r, .int .i64 n.k.s, .int .i64 n.k.q, .slice n.ga n.gm n.gc] 49) := by rw [← hw0]; exact block_below (below_alloc1 _ _) (block_below (below_alloc1 _ _) (World.alloc_heap_new _ _))
    have hf0 : w0.heap[(w.heap.size + 1)]? = some (.cells #[.bool f.x, .int .i64 f.i, .bool f.r, .int .i64 f.n, .slice f.a f.m f.c] 34) := by rw [← hw0]; exact block_below (below_alloc1 _ _) (alloc_at _ _ (by simp))
    have hr0 : w0.heap[(w.heap.size + 2)]? = some (.cells #[.slice none 0 0, .slice none 0 0, .int .i64 0, .int .i64 0, .int .i64 0, .int .i64 0, .slice none 0 0] 49) := by rw [← hw0]; exact alloc_at _ _ (by simp)
    have hs0 : w0.heap.size = w.heap.size + 3 := by rw [← hw0]; simp
    have Hs0 := Lib.hid hs0
    clear hs0
    obtain ⟨nc0, nc1, nc2, nc3, nc4, nc5, nc6⟩ := cells7' hn0
    obtain ⟨fc0, fc1, fc2, fc3, fc4⟩ := cells5' hf0
    obtain ⟨rc0, rc1, rc2, rc3, rc4, rc5, rc6⟩ := cells7' hr0
    go_enter Tryz.func71, Tryz.ntmps71
    go_wp2_with fail
    clear nc0 nc1 nc2 nc3 nc4 nc5 nc6 fc0 fc1 fc2 fc3 fc4 rc0 rc1 rc2 rc3 rc4 rc5 rc6
    clear hw0
    have hZ0 := Below.refl w0.heap.size w0
    refine (isOff_c n false (by simpa using Hs.out) w0).mono ?_
    rintro e w1 ⟨rfl, hB1⟩
    have hT1 := below_then hT0 hB1
    have hZ1 := below_then hZ0 hB1
    clear hZ0
    have hn1 := block_below hB1 hn0
    have hf1 := block_below hB1 hf0
    have hr1 := block_below hB1 hr0
    clear hT0 hn0 hf0 hr0  hB1
    obtain ⟨nc0, nc1, nc2, nc3, nc4, nc5, nc6⟩ := cells7' hn1
    obtain ⟨fc0, fc1, fc2, fc3, fc4⟩ := cells5' hf1
    obtain ⟨rc0, rc1, rc2, rc3, rc4, rc5, rc6⟩ := cells7' hr1
    go_wp2_with fail
    clear nc0 nc1 nc2 nc3 nc4 nc5 nc6 fc0 fc1 fc2 fc3 fc4 rc0 rc1 rc2 rc3 rc4 rc5 rc6
    refine (counted_c n d 5 Hd2.out hkk w1).mono ?_
    rintro e w2 ⟨rfl, hB2⟩
    have hT2 := below_then hT1 hB2
    have hZ2 := below_then hZ1 hB2
    clear hZ1
    have hn2 := block_below hB2 hn1
    have hf2 := block_below hB2 hf1
    have hr2 := block_below hB2 hr1
    clear hT1 hn1 hf1 hr1  hB2
    obtain ⟨nc0, nc1, nc2, nc3, nc4, nc5, nc6⟩ := cells7' hn2
    obtain ⟨fc0, fc1, fc2, fc3, fc4⟩ := cells5' hf2
    obtain ⟨⟨rc0, rc1, rc2, rc3, rc4, rc5, rc6⟩, rf0, rf1, rf2, rf3, rf4, rf5, rf6⟩ := cells7 hr2
    go_wp2_with fail
    clear nc0 nc1 nc2 nc3 nc4 nc5 nc6 fc0 fc1 fc2 fc3 fc4 rc0 rc1 rc2 rc3 rc4 rc5 rc6 rf0 rf1 rf2 rf3 rf4 rf5 rf6
    exact bodyPost_ret (v := NV.v ⟨n.qa, n.qm, n.qc, n.la, n.lm, n.lc, d, n.ga, n.gm, n.gc⟩) (results_n (n := ⟨n.qa, n.qm, n.qc, n.la, n.lm, n.lc, d, n.ga, n.gm, n.gc⟩) rfl _ rfl (set7_obj hr2 _ _ _ _ _ _ _)) rfl (⟨⟨n.qa, n.qm, n.qc, n.la, n.lm, n.lc, d, n.ga, n.gm, n.gc⟩, rfl, ⟨h.q.to (below_g hT2 (set7_grown _ _ _ _ _ _ _ _ _) (by omega)), h.l.to (below_g hT2 (set7_grown _ _ _ _ _ _ _ _ _) (by omega)), rfl, h.g.to (below_g hT2 (set7_grown _ _ _ _ _ _ _ _ _) (by omega))⟩, (below_g hT2 (set7_grown _ _ _ _ _ _ _ _ _) (by omega))⟩)
  rw [if_pos rfl] at hM
  obtain ⟨d, hd⟩ : ∃ d, stepV n.k 2 = d := ⟨_, rfl⟩
  have Hd2 := Lib.hid hd
  obtain ⟨Gs, hGs⟩ : ∃ Gs, gotN N F = Gs := ⟨_, rfl⟩
  obtain rfl : (⟨N.q, N.l, d, Gs⟩ : NC) = M := by rw [← hM, ← hd, hGs, h.k]
  unfold gotN at hGs
  rw [h.g.len] at hGs
  clear hd hM
  by_cases hg : n.gm < 64
  · skip
    rw [decide_eq_true hg, Bool.true_and] at hGs
    have i1 : (n.gm : Int) < 64 := by omega
    obtain ⟨q, hq⟩ : ∃ q, anyV N.l F.x F.i = q := ⟨_, rfl⟩
    have Hq := Lib.hid hq
    rw [hq] at hGs
    clear hq
    cases q
    · skip
      obtain rfl : N.g = Gs := hGs
      obtain ⟨w0, hw0⟩ : ∃ w0, (((w.alloc (.cells #[.slice n.qa n.qm n.qc, .slice n.la n.lm n.lc, .int .i64 n.k.t, .int .i64 n.k.r, .int .i64 n.k.s, .int .i64 n.k.q, .slice n.ga n.gm n.gc] 49)).alloc (.cells #[.bool f.x, .int .i64 f.i, .bool f.r, .int .i64 f.n, .slice f.a f.m f.c] 34)).alloc (.cells #[.slice none 0 0, .slice none 0 0, .int .i64 0, .int .i64 0, .int .i64 0, .int .i64 0, .slice none 0 0] 49)) = w0 := ⟨_, rfl⟩
      have hT0 : Below w.heap.size w w0 := by rw [← hw0]; exact below_then (below_then (below_alloc1 _ _) (below_alloc1 _ _)) (below_alloc1 _ _)
      have hn0 : w0.heap[w.heap.size]? = some (.cells #[.slice n.qa n.qm n.qc, .slice n.la n.lm n.lc, .int .i64 n.k.t, .int .i64 n.k.r, .int .i64 n.k.s, .int .i64 n.k.q, .slice n.ga n.gm n.gc] 49) := by rw [← hw0]; exact block_below (below_alloc1 _ _) (block_below (below_alloc1 _ _) (World.alloc_heap_new _ _))
      have hf0 : w0.heap[(w.heap.size + 1)]? = some (.cells #[.bool f.x, .int .i64 f.i, .bool f.r, .int .i64 f.n, .slice f.a f.m f.c] 34) := by rw [← hw0]; exact block_below (below_alloc1 _ _) (alloc_at _ _ (by simp))
      have hr0 : w0.heap[(w.heap.size + 2)]? = some (.cells #[.slice none 0 0, .slice none 0 0, .int .i64 0, .int .i64 0, .int .i64 0, .int .i64 0, .slice none 0 0] 49) := by rw [← hw0]; exact alloc_at _ _ (by simp)
      have hs0 : w0.heap.size = w.heap.size + 3 := by rw [← hw0]; simp
      have Hs0 := Lib.hid hs0
      clear hs0
      obtain ⟨nc0, nc1, nc2, nc3, nc4, nc5, nc6⟩ := cells7' hn0
      obtain ⟨fc0, fc1, fc2, fc3, fc4⟩ := cells5' hf0
      obtain ⟨rc0, rc1, rc2, rc3, rc4, rc5, rc6⟩ := cells7' hr0
      go_enter Tryz.func71, Tryz.ntmps71
      go_wp2_with fail
      clear nc0 nc1 nc2 nc3 nc4 nc5 nc6 fc0 fc1 fc2 fc3 fc4 rc0 rc1 rc2 rc3 rc4 rc5 rc6
      clear hw0
      have hZ0 := Below.refl w0.heap.size w0
      refine (isOff_c n false (by simpa using Hs.out) w0).mono ?_
      rintro e w1 ⟨rfl, hB1⟩
      have hT1 := below_then hT0 hB1
      have hZ1 := below_then hZ0 hB1
      clear hZ0
      have hn1 := block_below hB1 hn0
      have hf1 := block_below hB1 hf0
      have hr1 := block_below hB1 hr0
      clear hT0 hn0 hf0 hr0  hB1
      obtain ⟨nc0, nc1, nc2, nc3, nc4, nc5, nc6⟩ := cells7' hn1
      obtain ⟨fc0, fc1, fc2, fc3, fc4⟩ := cells5' hf1
      obtain ⟨rc0, rc1, rc2, rc3, rc4, rc5, rc6⟩ := cells7' hr1
      go_wp2_with fail
      clear nc0 nc1 nc2 nc3 nc4 nc5 nc6 fc0 fc1 fc2 fc3 fc4 rc0 rc1 rc2 rc3 rc4 rc5 rc6
      refine (any_c (h.l.to hT1) (hf.to hT1) (by omega) false Hq.out).mono ?_
      rintro e w2 ⟨rfl, hB2⟩
      have hT2 := below_then hT1 hB2
      have hZ2 := below_then hZ1 hB2
      clear hZ1
      have hn2 := block_below hB2 hn1
      have hf2 := block_below hB2 hf1
      have hr2 := block_below hB2 hr1
      clear hT1 hn1 hf1 hr1  hB2
      obtain ⟨nc0, nc1, nc2, nc3, nc4, nc5, nc6⟩ := cells7' hn2
      obtain ⟨fc0, fc1, fc2, fc3, fc4⟩ := cells5' hf2
      obtain ⟨rc0, rc1, rc2, rc3, rc4, rc5, rc6⟩ := cells7' hr2
      go_wp2_with fail
      clear nc0 nc1 nc2 nc3 nc4 nc5 nc6 fc0 fc1 fc2 fc3 fc4 rc0 rc1 rc2 rc3 rc4 rc5 rc6
      refine (counted_c n d 2 Hd2.out hkk w2).mono ?_
      rintro e w3 ⟨rfl, hB3⟩
      have hT3 := below_then hT2 hB3
      have hZ3 := below_then hZ2 hB3
      clear hZ2
      have hn3 := block_below hB3 hn2
      have hf3 := block_below hB3 hf2
      have hr3 := block_below hB3 hr2
      clear hT2 hn2 hf2 hr2  hB3
      obtain ⟨nc0, nc1, nc2, nc3, nc4, nc5, nc6⟩ := cells7' hn3
      obtain ⟨fc0, fc1, fc2, fc3, fc4⟩ := cells5' hf3
      obtain ⟨⟨rc0, rc1, rc2, rc3, rc4, rc5, rc6⟩, rf0, rf1, rf2, rf3, rf4, rf5, rf6⟩ := cells7 hr3
      go_wp2_with fail
      clear nc0 nc1 nc2 nc3 nc4 nc5 nc6 fc0 fc1 fc2 fc3 fc4 rc0 rc1 rc2 rc3 rc4 rc5 rc6 rf0 rf1 rf2 rf3 rf4 rf5 rf6
      exact bodyPost_ret (v := NV.v ⟨n.qa, n.qm, n.qc, n.la, n.lm, n.lc, d, n.ga, n.gm, n.gc⟩) (results_n (n := ⟨n.qa, n.qm, n.qc, n.la, n.lm, n.lc, d, n.ga, n.gm, n.gc⟩) rfl _ rfl (set7_obj hr3 _ _ _ _ _ _ _)) rfl (⟨⟨n.qa, n.qm, n.qc, n.la, n.lm, n.lc, d, n.ga, n.gm, n.gc⟩, rfl, ⟨h.q.to (below_g hT3 (set7_grown _ _ _ _ _ _ _ _ _) (by omega)), h.l.to (below_g hT3 (set7_grown _ _ _ _ _ _ _ _ _) (by omega)), rfl, h.g.to (below_g hT3 (set7_grown _ _ _ _ _ _ _ _ _) (by omega))⟩, (below_g hT3 (set7_grown _ _ _ _ _ _ _ _ _) (by omega))⟩)
    obtain rfl : N.g ++ [F] = Gs := hGs
    obtain ⟨m, hmm⟩ : ∃ m, n.gm + 1 = m := ⟨_, rfl⟩
    have Hm := Lib.hid hmm
    clear hmm
    obtain ⟨w0, hw0⟩ : ∃ w0, (((w.alloc (.cells #[.slice n.qa n.qm n.qc, .slice n.la n.lm n.lc, .int .i64 n.k.t, .int .i64 n.k.r, .int .i64 n.k.s, .int .i64 n.k.q, .slice n.ga n.gm n.gc] 49)).alloc (.cells #[.bool f.x, .int .i64 f.i, .bool f.r, .int .i64 f.n, .slice f.a f.m f.c] 34)).alloc (.cells #[.slice none 0 0, .slice none 0 0, .int .i64 0, .int .i64 0, .int .i64 0, .int .i64 0, .slice none 0 0] 49)) = w0 := ⟨_, rfl⟩
    have hT0 : Below w.heap.size w w0 := by rw [← hw0]; exact below_then (below_then (below_alloc1 _ _) (below_alloc1 _ _)) (below_alloc1 _ _)
    have hn0 : w0.heap[w.heap.size]? = some (.cells #[.slice n.qa n.qm n.qc, .slice n.la n.lm n.lc, .int .i64 n.k.t, .int .i64 n.k.r, .int .i64 n.k.s, .int .i64 n.k.q, .slice n.ga n.gm n.gc] 49) := by rw [← hw0]; exact block_below (below_alloc1 _ _) (block_below (below_alloc1 _ _) (World.alloc_heap_new _ _))
    have hf0 : w0.heap[(w.heap.size + 1)]? = some (.cells #[.bool f.x, .int .i64 f.i, .bool f.r, .int .i64 f.n, .slice f.a f.m f.c] 34) := by rw [← hw0]; exact block_below (below_alloc1 _ _) (alloc_at _ _ (by simp))
    have hr0 : w0.heap[(w.heap.size + 2)]? = some (.cells #[.slice none 0 0, .slice none 0 0, .int .i64 0, .int .i64 0, .int .i64 0, .int .i64 0, .slice none 0 0] 49) := by rw [← hw0]; exact alloc_at _ _ (by simp)
    have hs0 : w0.heap.size = w.heap.size + 3 := by rw [← hw0]; simp
    have Hs0 := Lib.hid hs0
    clear hs0
    obtain ⟨nc0, nc1, nc2, nc3, nc4, nc5, nc6⟩ := cells7' hn0
    obtain ⟨fc0, fc1, fc2, fc3, fc4⟩ := cells5' hf0
    obtain ⟨rc0, rc1, rc2, rc3, rc4, rc5, rc6⟩ := cells7' hr0
    go_enter Tryz.func71, Tryz.ntmps71
    go_wp2_with fail
    clear nc0 nc1 nc2 nc3 nc4 nc5 nc6 fc0 fc1 fc2 fc3 fc4 rc0 rc1 rc2 rc3 rc4 rc5 rc6
    clear hw0
    have hZ0 := Below.refl w0.heap.size w0
    refine (isOff_c n false (by simpa using Hs.out) w0).mono ?_
    rintro e w1 ⟨rfl, hB1⟩
    have hT1 := below_then hT0 hB1
    have hZ1 := below_then hZ0 hB1
    clear hZ0
    have hn1 := block_below hB1 hn0
    have hf1 := block_below hB1 hf0
    have hr1 := block_below hB1 hr0
    clear hT0 hn0 hf0 hr0  hB1
    obtain ⟨nc0, nc1, nc2, nc3, nc4, nc5, nc6⟩ := cells7' hn1
    obtain ⟨fc0, fc1, fc2, fc3, fc4⟩ := cells5' hf1
    obtain ⟨rc0, rc1, rc2, rc3, rc4, rc5, rc6⟩ := cells7' hr1
    go_wp2_with fail
    clear nc0 nc1 nc2 nc3 nc4 nc5 nc6 fc0 fc1 fc2 fc3 fc4 rc0 rc1 rc2 rc3 rc4 rc5 rc6
    refine (any_c (h.l.to hT1) (hf.to hT1) (by omega) true Hq.out).mono ?_
    rintro e w2 ⟨rfl, hB2⟩
    have hT2 := below_then hT1 hB2
    have hZ2 := below_then hZ1 hB2
    clear hZ1
    have hn2 := block_below hB2 hn1
    have hf2 := block_below hB2 hf1
    have hr2 := block_below hB2 hr1
    clear hT1 hn1 hf1 hr1  hB2
    obtain ⟨nc0, nc1, nc2, nc3, nc4, nc5, nc6⟩ := cells7' hn2
    obtain ⟨fc0, fc1, fc2, fc3, fc4⟩ := cells5' hf2
    obtain ⟨rc0, rc1, rc2, rc3, rc4, rc5, rc6⟩ := cells7' hr2
    go_wp2_with fail
    clear nc0 nc1 nc2 nc3 nc4 nc5 nc6 fc0 fc1 fc2 fc3 fc4 rc0 rc1 rc2 rc3 rc4 rc5 rc6
    have hB0k : Below w0.heap.size w0 w2 := hZ2
    have hTd := below_then hT2 (below_drew1 _)
    have hrl := (Array.getElem?_eq_some_iff.1 hr2).1
    obtain ⟨⟨nc0, nc1, nc2, nc3, nc4, nc5, nc6⟩, nf0, nf1, nf2, nf3, nf4, nf5, nf6⟩ := cells7 hn2
    obtain ⟨fc0, fc1, fc2, fc3, fc4⟩ := cells5' hf2
    go_region_with (first
      | (have hq_ := hg_; clear hq_; go_at_call 93; refine (with_c ((h.g.gap (w.heap.size + 3)).to (below_then hTd hB30)) hg_ (fun b hb => hPG b (Nat.le_trans hB30.size hb)) m Hm.out (by have := Hm.out; omega)).mono ?_; rintro e w31 ⟨A2, c2, rfl, hs_, hB31⟩; have hn31 := block_below hB31 hn30; clear nc0 nc1 nc2 nc3 nc4 nc5 nc6 nf0 nf1 nf2 nf3 nf4 nf5 nf6; obtain ⟨⟨nc0, nc1, nc2, nc3, nc4, nc5, nc6⟩, nf0, nf1, nf2, nf3, nf4, nf5, nf6⟩ := cells7 hn31)
      | (go_at_call 94; have hPG : ∀ b, w2.drew.heap.size ≤ b → Gap P w.heap.size (w.heap.size + 3) b := (fun b hb => gap_up hP (by omega) b (by have h1 := Hs0.out; have h2 := hB0k.size; have h3 : w2.heap.size ≤ b := hb; omega)); refine (kept_c ((hf.gap (w.heap.size + 3)).to hTd) hPG (by have := Hd.out; omega)).mono ?_; rintro e w30 ⟨g, rfl, hg_, hB30⟩; have hn30 := block_below hB30 (block_below (below_drew1 _) hn2); clear nc0 nc1 nc2 nc3 nc4 nc5 nc6 nf0 nf1 nf2 nf3 nf4 nf5 nf6 fc0 fc1 fc2 fc3 fc4; obtain ⟨⟨nc0, nc1, nc2, nc3, nc4, nc5, nc6⟩, nf0, nf1, nf2, nf3, nf4, nf5, nf6⟩ := cells7 hn30)
      | fail)
    all_goals
      clear nc0 nc1 nc2 nc3 nc4 nc5 nc6 nf0 nf1 nf2 nf3 nf4 nf5 nf6
      have hT31 := below_then (below_then hTd hB30) hB31
      have hf31 : w31.heap[(w.heap.size + 1)]? = some (.cells #[.bool f.x, .int .i64 f.i, .bool f.r, .int .i64 f.n, .slice f.a f.m f.c] 34) := block_below hB31 (block_below hB30 (block_below (below_drew1 _) hf2))
      have hr31 : w31.heap[(w.heap.size + 1 + 1)]? = some (.cells #[.slice none 0 0, .slice none 0 0, .int .i64 0, .int .i64 0, .int .i64 0, .int .i64 0, .slice none 0 0] 49) := block_below hB31 (block_below hB30 (block_below (below_drew1 _) hr2))
      have hs31 := hs_
      clear hs_ hT2 hn2 hf2 hr2 hB30 hB31 hTd hB0k hPG hrl hg_ hn30
      obtain ⟨w32, hw32⟩ : ∃ w_, w31.setCell ⟨w.heap.size, 6, none⟩ (.slice A2 m c2) = w_ := ⟨_, rfl⟩
      have hG32 : w31.grownBy w32 (some w.heap.size) := by rw [← hw32]; exact grown_setAt _ _ _ _
      have hT32 := below_g hT31 hG32 (by omega)
      have hn32 : w32.heap[w.heap.size]? = some (.cells #[.slice n.qa n.qm n.qc, .slice n.la n.lm n.lc, .int .i64 n.k.t, .int .i64 n.k.r, .int .i64 n.k.s, .int .i64 n.k.q, .slice A2 m c2] 49) := by rw [← hw32]; exact set6_obj7 hn31 _
      have hf32 := other_g hG32 hf31 (by omega)
      have hr32 := other_g hG32 hr31 (by omega)
      have hs32 := FSl.grow hs31 hG32 (gap_not (by omega) (by omega))
      rw [hw32]
      clear hw32 hG32 hT31 hn31 hf31 hr31 hs31
      obtain ⟨nc0, nc1, nc2, nc3, nc4, nc5, nc6⟩ := cells7' hn32
      obtain ⟨fc0, fc1, fc2, fc3, fc4⟩ := cells5' hf32
      obtain ⟨⟨rc0, rc1, rc2, rc3, rc4, rc5, rc6⟩, rf0, rf1, rf2, rf3, rf4, rf5, rf6⟩ := cells7 hr32
      go_wp2_with fail
      clear nc0 nc1 nc2 nc3 nc4 nc5 nc6 fc0 fc1 fc2 fc3 fc4 rc0 rc1 rc2 rc3 rc4 rc5 rc6 rf0 rf1 rf2 rf3 rf4 rf5 rf6
      refine (counted_c ⟨n.qa, n.qm, n.qc, n.la, n.lm, n.lc, n.k, A2, m, c2⟩ d 2 Hd2.out hkk w32).mono ?_
      rintro e w33 ⟨rfl, hB33⟩
      have hT33 := below_then hT32 hB33
      have hn33 := block_below hB33 hn32
      have hf33 := block_below hB33 hf32
      have hr33 := block_below hB33 hr32
      have hs33 := FSl.to hs32 hB33
      clear hT32 hn32 hf32 hr32 hs32 hB33
      obtain ⟨nc0, nc1, nc2, nc3, nc4, nc5, nc6⟩ := cells7' hn33
      obtain ⟨fc0, fc1, fc2, fc3, fc4⟩ := cells5' hf33
      obtain ⟨⟨rc0, rc1, rc2, rc3, rc4, rc5, rc6⟩, rf0, rf1, rf2, rf3, rf4, rf5, rf6⟩ := cells7 hr33
      go_wp2_with fail
      clear nc0 nc1 nc2 nc3 nc4 nc5 nc6 fc0 fc1 fc2 fc3 fc4 rc0 rc1 rc2 rc3 rc4 rc5 rc6 rf0 rf1 rf2 rf3 rf4 rf5 rf6
      exact bodyPost_ret (v := NV.v ⟨n.qa, n.qm, n.qc, n.la, n.lm, n.lc, d, A2, m, c2⟩) (results_n (n := ⟨n.qa, n.qm, n.qc, n.la, n.lm, n.lc, d, A2, m, c2⟩) rfl _ rfl (set7_obj hr33 _ _ _ _ _ _ _)) rfl (⟨⟨n.qa, n.qm, n.qc, n.la, n.lm, n.lc, d, A2, m, c2⟩, rfl, ⟨h.q.to (below_g hT33 (set7_grown _ _ _ _ _ _ _ _ _) (by omega)), h.l.to (below_g hT33 (set7_grown _ _ _ _ _ _ _ _ _) (by omega)), rfl, (hs33.grow (set7_grown _ _ _ _ _ _ _ _ _) (gap_not (by omega) (by omega))).ungap⟩, (below_g hT33 (set7_grown _ _ _ _ _ _ _ _ _) (by omega))⟩)
  rw [decide_eq_false hg, Bool.false_and] at hGs
  obtain rfl : N.g = Gs := hGs
  have i1 : ¬ (n.gm : Int) < 64 := by omega
  obtain ⟨w0, hw0⟩ : ∃ w0, (((w.alloc (.cells #[.slice n.qa n.qm n.qc, .slice n.la n.lm n.lc, .int .i64 n.k.t, .int .i64 n.k.r, .int .i64 n.k.s, .int .i64 n.k.q, .slice n.ga n.gm n.gc] 49)).alloc (.cells #[.bool f.x, .int .i64 f.i, .bool f.r, .int .i64 f.n, .slice f.a f.m f.c] 34)).alloc (.cells #[.slice none 0 0, .slice none 0 0, .int .i64 0, .int .i64 0, .int .i64 0, .int .i64 0, .slice none 0 0] 49)) = w0 := ⟨_, rfl⟩
  have hT0 : Below w.heap.size w w0 := by rw [← hw0]; exact below_then (below_then (below_alloc1 _ _) (below_alloc1 _ _)) (below_alloc1 _ _)
  have hn0 : w0.heap[w.heap.size]? = some (.cells #[.slice n.qa n.qm n.qc, .slice n.la n.lm n.lc, .int .i64 n.k.t, .int .i64 n.k.r, .int .i64 n.k.s, .int .i64 n.k.q, .slice n.ga n.gm n.gc] 49) := by rw [← hw0]; exact block_below (below_alloc1 _ _) (block_below (below_alloc1 _ _) (World.alloc_heap_new _ _))
  have hf0 : w0.heap[(w.heap.size + 1)]? = some (.cells #[.bool f.x, .int .i64 f.i, .bool f.r, .int .i64 f.n, .slice f.a f.m f.c] 34) := by rw [← hw0]; exact block_below (below_alloc1 _ _) (alloc_at _ _ (by simp))
  have hr0 : w0.heap[(w.heap.size + 2)]? = some (.cells #[.slice none 0 0, .slice none 0 0, .int .i64 0, .int .i64 0, .int .i64 0, .int .i64 0, .slice none 0 0] 49) := by rw [← hw0]; exact alloc_at _ _ (by simp)
  have hs0 : w0.heap.size = w.heap.size + 3 := by rw [← hw0]; simp
  have Hs0 := Lib.hid hs0
  clear hs0
  obtain ⟨nc0, nc1, nc2, nc3, nc4, nc5, nc6⟩ := cells7' hn0
  obtain ⟨fc0, fc1, fc2, fc3, fc4⟩ := cells5' hf0
  obtain ⟨rc0, rc1, rc2, rc3, rc4, rc5, rc6⟩ := cells7' hr0
  go_enter Tryz.func71, Tryz.ntmps71
  go_wp2_with fail
  clear nc0 nc1 nc2 nc3 nc4 nc5 nc6 fc0 fc1 fc2 fc3 fc4 rc0 rc1 rc2 rc3 rc4 rc5 rc6
  clear hw0
  have hZ0 := Below.refl w0.heap.size w0
  refine (isOff_c n false (by simpa using Hs.out) w0).mono ?_
  rintro e w1 ⟨rfl, hB1⟩
  have hT1 := below_then hT0 hB1
  have hZ1 := below_then hZ0 hB1
  clear hZ0
  have hn1 := block_below hB1 hn0
  have hf1 := block_below hB1 hf0
  have hr1 := block_below hB1 hr0
  clear hT0 hn0 hf0 hr0  hB1
  obtain ⟨nc0, nc1, nc2, nc3, nc4, nc5, nc6⟩ := cells7' hn1
  obtain ⟨fc0, fc1, fc2, fc3, fc4⟩ := cells5' hf1
  obtain ⟨rc0, rc1, rc2, rc3, rc4, rc5, rc6⟩ := cells7' hr1
  go_wp2_with fail
  clear nc0 nc1 nc2 nc3 nc4 nc5 nc6 fc0 fc1 fc2 fc3 fc4 rc0 rc1 rc2 rc3 rc4 rc5 rc6
  refine (counted_c n d 2 Hd2.out hkk w1).mono ?_
  rintro e w2 ⟨rfl, hB2⟩
  have hT2 := below_then hT1 hB2
  have hZ2 := below_then hZ1 hB2
  clear hZ1
  have hn2 := block_below hB2 hn1
  have hf2 := block_below hB2 hf1
  have hr2 := block_below hB2 hr1
  clear hT1 hn1 hf1 hr1  hB2
  obtain ⟨nc0, nc1, nc2, nc3, nc4, nc5, nc6⟩ := cells7' hn2
  obtain ⟨fc0, fc1, fc2, fc3, fc4⟩ := cells5' hf2
  obtain ⟨⟨rc0, rc1, rc2, rc3, rc4, rc5, rc6⟩, rf0, rf1, rf2, rf3, rf4, rf5, rf6⟩ := cells7 hr2
  go_wp2_with fail
  clear nc0 nc1 nc2 nc3 nc4 nc5 nc6 fc0 fc1 fc2 fc3 fc4 rc0 rc1 rc2 rc3 rc4 rc5 rc6 rf0 rf1 rf2 rf3 rf4 rf5 rf6
  exact bodyPost_ret (v := NV.v ⟨n.qa, n.qm, n.qc, n.la, n.lm, n.lc, d, n.ga, n.gm, n.gc⟩) (results_n (n := ⟨n.qa, n.qm, n.qc, n.la, n.lm, n.lc, d, n.ga, n.gm, n.gc⟩) rfl _ rfl (set7_obj hr2 _ _ _ _ _ _ _)) rfl (⟨⟨n.qa, n.qm, n.qc, n.la, n.lm, n.lc, d, n.ga, n.gm, n.gc⟩, rfl, ⟨h.q.to (below_g hT2 (set7_grown _ _ _ _ _ _ _ _ _) (by omega)), h.l.to (below_g hT2 (set7_grown _ _ _ _ _ _ _ _ _) (by omega)), rfl, h.g.to (below_g hT2 (set7_grown _ _ _ _ _ _ _ _ _) (by omega))⟩, (below_g hT2 (set7_grown _ _ _ _ _ _ _ _ _) (by omega))⟩)
end Go.Proofs.YtcifjccojmfpaaaGreat

namespace Go.Proofs.YtcifjccojmfpaaaGreat
open Go.RowKit
set_option linter.unusedVariables false
set_option linter.unusedSimpArgs false
def Out (L : List Nat) : Nat → Prop := fun b => ∀ X ∈ L, b ≠ X
theorem out_up {L : List Nat} {s : Nat} (h : ∀ X ∈ L, X < s) : ∀ b, s ≤ b → Out L b := fun b hb X hX => by have := h X hX; omega
theorem out_not {L : List Nat} {X : Nat} (h : X ∈ L) : ¬ Out L X := fun h1 => h1 X h rfl
theorem lt_cons {L : List Nat} {X s : Nat} (hX : X < s) (h : ∀ Y ∈ L, Y < s) : ∀ Y ∈ X :: L, Y < s := fun Y hY => by
  rcases List.mem_cons.1 hY with rfl | h2
  · exact hX
  · exact h Y h2
theorem fis_lit {w : World} {P : Nat → Prop} (x : Bool) (i : Int) (r : Bool) (n : Int) : FIs w P ⟨x, i, r, n, none, 0, 0⟩ ⟨x, i, r, n, []⟩ :=
  ⟨rfl, rfl, rfl, rfl, rfl, Nat.le_refl _, Nat.zero_le _, (fun _ h => by cases h), .inl rfl, fun h => absurd h (Nat.lt_irrefl 0)⟩
end Go.Proofs.YtcifjccojmfpaaaGreat

namespace Go.Proofs.YtcifjccojmfpaaaGreat
open Go.RowKit
set_option linter.unusedVariables false
set_option linter.unusedSimpArgs false
def ownL : Option Addr → List Nat
  | none => []
  | some a => [a.block]
theorem ownL_lt {w : World} {base : Nat} {A : Option Addr} {n c : Nat} {fs : List FV} (h : FOwn w base A n c fs) : ∀ Y ∈ ownL A, Y < w.heap.size := by
  intro Y hY
  cases A with
  | none => cases hY
  | some a => simp [ownL] at hY; subst hY; exact (h.lt _ rfl).2
theorem run_append_frO (w : World) (base : Nat) (ty : TypeId) (A0 : Option Addr) (n c0 : Nat) (fs : List FV) (hown : FOwn w base A0 n c0 fs)
    (A : Option Addr) (m c B : Nat) (fs' : List FV) (hm : fs'.length = m) (hr : FRow w B A fs') (h63 : n + m ≤ 1000) (hbase : base ≤ w.heap.size) :
    ∃ A' c' w', (Builtin.append_ #[44, 44] ty #[.slice A0 n c0, .slice A m c]).run Tryz.prog w = .ok (.slice A' (n + m) c') w' ∧ FOwn w' base A' (n + m) c' (fs ++ fs') ∧ n + m ≤ c' ∧ w.grownBy w' (Value.slice A0 n c0).ownBlock ∧ Below base w w' ∧ (ownL A' = ownL A0 ∨ ownL A' = [w.heap.size]) := by
  obtain ⟨i, hi, hz, hsize, hby⟩ := info_parts Tryz.infoFr
  have hu := Tryz.underlying44
  have form : ∀ (v' : Value) (w' : World), w'.ownsRow base 34 5 v' (n + m) (fcells (fs ++ fs')) → ∃ A' c', v' = .slice A' (n + m) c' ∧ n + m ≤ c' := by
    intro v' w' h
    rcases h.2 with ⟨rfl, h0⟩ | ⟨g, cap, cur, rfl, _, _, hc, _⟩
    · exact ⟨none, 0, by rw [h0], by omega⟩
    · exact ⟨_, _, rfl, hc⟩
  have low : ∀ k, (Value.slice A0 n c0).ownBlock = some k → base ≤ k := fun k e => (hown.lt k e).1
  have ob : ∀ (a : Option Addr) (x y : Nat) (o : Option Nat), (Value.slice a x y).ownBlock = o → ownL a = (match o with | some k => [k] | none => []) := by
    intro a x y o e; subst e; cases a <;> rfl
  cases A with
  | some ad =>
    obtain ⟨v', w', hrun, h2, h3, _, h5⟩ := run_append_own_at (P := Tryz.prog) w base 44 ty 34 i _ 5 56 hu hi hz hsize hby rfl (by omega) _ n _ hown ad m c (fcells fs') (by rw [fcells_len, hm]) hr.cells (fcells_one fs') (by unfold maxLen; omega) (by omega) hbase
    rw [← fcells_app] at h2
    obtain ⟨A', c', rfl, hc'⟩ := form v' w' h2
    refine ⟨A', c', w', hrun, h2, hc', h3, (Below.refl _ _).grown h3 hbase low, ?_⟩
    rcases h5 with h5 | h5
    · left; rw [ob _ _ _ _ h5]; exact (ob _ _ _ _ rfl).symm
    · right; rw [ob _ _ _ _ h5]
  | none =>
    obtain rfl : fs' = [] := by
      rcases hr with rfl | ⟨ad, e', _⟩
      · rfl
      · cases e'
    obtain rfl : m = 0 := hm.symm
    have hrun : (Builtin.append_ #[44, 44] ty #[.slice A0 n c0, .slice none 0 c]).run Tryz.prog w = .ok (.slice A0 n c0) w := by
      rcases hown.2 with ⟨e1, rfl⟩ | ⟨g, cap, cur, e1, _, _, hnc, _⟩
      · rw [e1]
        simp [Builtin.append_, run_underlying hu, sizeOf, typeInfo, hi, Builtin.lenOf, Builtin.firstCells]
      · rw [e1]
        simp [Builtin.append_, run_underlying hu, sizeOf, typeInfo, hi, Builtin.lenOf, Builtin.firstCells, hnc, storeCells]
    have h2 : w.ownsRow base 34 5 (.slice A0 n c0) (n + 0) (fcells (fs ++ [])) := by simpa using hown
    obtain ⟨A', c', e, hc'⟩ := form _ w h2
    injection e with e1 e2 e3
    subst e1 e3
    exact ⟨A0, c0, w, hrun, by simpa using hown, hc', ⟨rfl, rfl, rfl, Nat.le_refl _, fun _ _ _ => rfl⟩, Below.refl _ _, .inl rfl⟩
theorem wpList_append_frO (w : World) {ops : Array Oper} {rest : List Oper} {o : Oper} {a : Act} {Q : Exit → Act → World → Prop} (hw : Region.wanted o (yielded ops a.tmps) = true) (s x : Operand)
    (ho : o.op = .call { callee := .builtin .append, args := #[s, x], argTypes := #[44, 44] })
    (base : Nat) (A0 : Option Addr) (n c0 : Nat) (fs : List FV) (hs : a.eval s = .slice A0 n c0) (hown : FOwn w base A0 n c0 fs)
    (A : Option Addr) (m c B : Nat) (fs' : List FV) (hx : a.eval x = .slice A m c) (hm : fs'.length = m) (hr : FRow w B A fs')
    (h63 : n + m ≤ 1000) (hbase : base ≤ w.heap.size)
    (h : ∀ A' c' w', FOwn w' base A' (n + m) c' (fs ++ fs') → n + m ≤ c' → w.grownBy w' (Value.slice A0 n c0).ownBlock → (ownL A' = ownL A0 ∨ ownL A' = [w.heap.size]) → Below base w w' → wpList Tryz.prog ops Q rest (a.put o.dst (.slice A' (n + m) c')) w') : wpList Tryz.prog ops Q (o :: rest) a w := by
  obtain ⟨A', c', w', hrun, h2, hc', hg, h3, h4⟩ := run_append_frO w base o.type A0 n c0 fs hown A m c B fs' hm hr h63 hbase
  unfold wpList
  rw [if_pos hw]
  left
  unfold Oper.wp execOp
  simp only [ho, resolve, invoke, builtin, Sem.run_bind, Sem.run_pure, Result.andThen_ok, List.map_toArray, List.map_cons, List.map_nil, hs, hx, hrun]
  exact h A' c' w' h2 hc' hg h4 h3
end Go.Proofs.YtcifjccojmfpaaaGreat

namespace Go.Proofs.YtcifjccojmfpaaaGreat
open Go.RowKit
set_option linter.unusedVariables false
set_option linter.unusedSimpArgs false
structure Shape {V : Type} (cs : V → List Value) (sz : Nat) : Prop where
  len : ∀ v, (cs v).length = sz
  one : ∀ v, ∀ u ∈ cs v, u.oneCell' = true
  pos : 0 < sz
section
variable {V : Type} {cs : V → List Value} {sz : Nat}
def gcells (cs : V → List Value) (vs : List V) : List Value := vs.flatMap cs
theorem gcells_app (a b : List V) : gcells cs (a ++ b) = gcells cs a ++ gcells cs b := by simp [gcells]
theorem gcells_len (S : Shape cs sz) (vs : List V) : (gcells cs vs).length = vs.length * sz := by
  induction vs with
  | nil => simp [gcells]
  | cons v vs ih => simp only [gcells, List.flatMap_cons, List.length_append, List.length_cons] at ih ⊢; rw [ih, S.len, Nat.succ_mul]; omega
theorem gcells_one (S : Shape cs sz) (vs : List V) : ∀ u ∈ gcells cs vs, u.oneCell' = true := by
  intro u hu
  obtain ⟨f, _, hf⟩ := List.mem_flatMap.1 hu
  exact S.one f u hf
theorem gcells_at (S : Shape cs sz) : ∀ (vs : List V) (k : Nat) (v : V), vs[k]? = some v → ∀ j u, (cs v)[j]? = some u → (gcells cs vs)[k * sz + j]? = some u
  | [], k, v, h => by simp at h
  | g :: vs, 0, v, h => by
    simp at h; subst h
    intro j u hu
    have hj : j < (cs g).length := (List.getElem?_eq_some_iff.1 hu).1
    simp only [gcells, List.flatMap_cons, Nat.zero_mul, Nat.zero_add]
    rw [List.getElem?_append_left hj]; exact hu
  | g :: vs, k + 1, v, h => by
    intro j u hu
    have ih := gcells_at S vs k v (by simpa using h) j u hu
    have hl := S.len g
    simp only [gcells, List.flatMap_cons] at ih ⊢
    rw [List.getElem?_append_right (by rw [hl, Nat.succ_mul]; omega), hl, show (k + 1) * sz + j - sz = k * sz + j by rw [Nat.succ_mul]; omega]
    exact ih
def GAt (cs : V → List Value) (w : World) (a : Addr) (v : V) : Prop := ∀ j u, (cs v)[j]? = some u → w.cell? (a.add j) = some u
def GRow (cs : V → List Value) (w : World) (B : Nat) (A : Option Addr) (vs : List V) : Prop :=
  vs = [] ∨ ∃ ad, A = some ad ∧ ad.block < B ∧ ∀ j u, (gcells cs vs)[j]? = some u → w.cell? (ad.add j) = some u
theorem GRow.at_lt (S : Shape cs sz) {w : World} {B : Nat} {A : Option Addr} {vs : List V} (h : GRow cs w B A vs) {k : Nat} {v : V} (hv : vs[k]? = some v) : ∃ ad, A = some ad ∧ ad.block < B ∧ GAt cs w (ad.add (k * sz)) v := by
  rcases h with rfl | ⟨ad, e, hb, hc⟩
  · simp at hv
  · refine ⟨ad, e, hb, fun j u hu => ?_⟩
    rw [addr_add]
    exact hc _ _ (gcells_at S vs k v hv j u hu)
theorem GRow.move {w w' : World} {B : Nat} {A : Option Addr} {vs : List V} (h : GRow cs w B A vs) (hk : ∀ p : Addr, p.block < B → w'.cell? p = w.cell? p) : GRow cs w' B A vs := by
  rcases h with rfl | ⟨ad, e, hb, hc⟩
  · exact .inl rfl
  · exact .inr ⟨ad, e, hb, fun j u hu => (hk _ (by rw [addr_block]; exact hb)).trans (hc j u hu)⟩
theorem GRow.more {w : World} {B B' : Nat} {A : Option Addr} {vs : List V} (h : GRow cs w B A vs) (hB : B ≤ B') : GRow cs w B' A vs := by
  rcases h with rfl | ⟨ad, e, hb, hc⟩
  · exact .inl rfl
  · exact .inr ⟨ad, e, by omega, hc⟩
theorem GRow.below {w w' : World} {B : Nat} {A : Option Addr} {vs : List V} (h : GRow cs w B A vs) (hb : Below B w w') : GRow cs w' B A vs := h.move fun _ hp => hb.cell hp
theorem GRow.to {a b : World} {A : Option Addr} {vs : List V} (h : GRow cs a a.heap.size A vs) (k : Below a.heap.size a b) : GRow cs b b.heap.size A vs := (h.below k).more k.size
theorem GRow.grow {w w' : World} {A : Option Addr} {vs : List V} {X : Nat} (h : GRow cs w w.heap.size A vs) (g : w.grownBy w' (some X)) (hX : vs ≠ [] → ∀ ad, A = some ad → ad.block ≠ X) : GRow cs w' w'.heap.size A vs := by
  rcases h with rfl | ⟨ad, e, hb, hc⟩
  · exact .inl rfl
  · by_cases hl : vs = []
    · exact .inl hl
    · refine .inr ⟨ad, e, Nat.lt_of_lt_of_le hb g.size, fun j u hu => ?_⟩
      have hb' : (ad.add j).block = ad.block := addr_block _ _
      exact (World.cell?_of_block (by rw [hb']; exact g.block _ hb (by simpa using hX hl ad e))).trans (hc j u hu)
theorem gcells_sub (S : Shape cs sz) (vs : List V) (i : Nat) : gcells cs (vs.drop i) = (gcells cs vs).drop (i * sz) := by
  induction vs generalizing i with
  | nil => simp [gcells]
  | cons v vs ih =>
    cases i with
    | zero => simp
    | succ i =>
      have hl := S.len v
      simp only [List.drop_succ_cons, ih]
      simp only [gcells, List.flatMap_cons]
      have e : (cs v).drop ((i + 1) * sz) = [] := List.drop_of_length_le (by rw [hl, Nat.succ_mul]; omega)
      rw [List.drop_append, e, List.nil_append, hl, show (i + 1) * sz - sz = i * sz by rw [Nat.succ_mul]; omega]
theorem GRow.drop_ (S : Shape cs sz) {w : World} {B : Nat} {ad : Addr} {vs : List V} (h : GRow cs w B (some ad) vs) (i : Nat) : GRow cs w B (some (ad.add (i * sz))) (vs.drop i) := by
  rcases h with rfl | ⟨ad', e, hb, hc⟩
  · left; simp
  · obtain rfl := Option.some.inj e
    refine .inr ⟨_, rfl, by rw [addr_block]; exact hb, fun j u hu => ?_⟩
    rw [gcells_sub S, List.getElem?_drop] at hu
    rw [addr_add]; exact hc _ _ hu
theorem GRow.take_ {w : World} {B : Nat} {A : Option Addr} {vs : List V} (h : GRow cs w B A vs) (i : Nat) : GRow cs w B A (vs.take i) := by
  rcases h with rfl | ⟨ad, e, hb, hc⟩
  · left; simp
  · refine .inr ⟨ad, e, hb, fun j u hu => hc j u ?_⟩
    have e2 : gcells cs vs = gcells cs (vs.take i) ++ gcells cs (vs.drop i) := by rw [← gcells_app, List.take_append_drop]
    rw [e2, List.getElem?_append_left (List.getElem?_eq_some_iff.1 hu).1]; exact hu
theorem GRow.lit (W : World) (vs : List V) {t : TypeId} {xs : Array Value} (hx : xs = (gcells cs vs).toArray) {k : Nat} (hk : k = W.heap.size) : GRow cs (W.alloc (.cells xs t)) (W.alloc (.cells xs t)).heap.size (some ⟨k, 0, none⟩) vs := by
  subst hk hx
  refine .inr ⟨_, rfl, by simp, fun j u hu => ?_⟩
  rw [add0]
  have hb := World.alloc_heap_new W (.cells (gcells cs vs).toArray t)
  simp only [World.cell?, hb]
  simpa using hu
abbrev GOwn (cs : V → List Value) (sz : Nat) (t : TypeId) (w : World) (base : Nat) (A : Option Addr) (n c : Nat) (vs : List V) : Prop := w.ownsRow base t sz (.slice A n c) n (gcells cs vs)
variable {t ts : TypeId}
theorem GOwn.len (S : Shape cs sz) {w : World} {base : Nat} {A : Option Addr} {n c : Nat} {vs : List V} (h : GOwn cs sz t w base A n c vs) : vs.length = n := by
  have := h.1
  rw [gcells_len S] at this
  exact Nat.eq_of_mul_eq_mul_right S.pos this
theorem GOwn.cap {w : World} {base : Nat} {A : Option Addr} {n c : Nat} {vs : List V} (h : GOwn cs sz t w base A n c vs) : n ≤ c := by
  rcases h.2 with ⟨e1, e2⟩ | ⟨g, cap, cur, e1, hb, hg, hn, _⟩
  · omega
  · injection e1 with _ _ e; omega
theorem GRow.own (S : Shape cs sz) {w : World} {base : Nat} {A : Option Addr} {n c : Nat} {vs : List V} (h : GOwn cs sz t w base A n c vs) : GRow cs w w.heap.size A vs := by
  rcases h.2 with ⟨e1, e2⟩ | ⟨g, cap, cur, e1, hb, hg, _, _, _, ht⟩
  · left
    have := GOwn.len S h
    rw [e2] at this
    exact List.eq_nil_of_length_eq_zero this
  · have hA : A = some ⟨g, 0, none⟩ := by injection e1
    subst hA
    exact .inr ⟨_, rfl, (Array.getElem?_eq_some_iff.1 hg).1, h.cells (g := g) rfl⟩
theorem GOwn.to {w w' : World} {base : Nat} {A : Option Addr} {n c : Nat} {vs : List V} (h : GOwn cs sz t w base A n c vs) (b : Below w.heap.size w w') : GOwn cs sz t w' base A n c vs := own_to h b
theorem gown_nil (S : Shape cs sz) (w : World) (base : Nat) : GOwn cs sz t w base none 0 0 [] := World.ownsRow_nil _ _ _ _
theorem gown_empty (S : Shape cs sz) (W : World) (base g : Nat) (hg : g = W.heap.size) (hb : base ≤ W.heap.size) : GOwn cs sz t (W.alloc (.cells #[] t)) base (some ⟨g, 0, none⟩) 0 0 [] := by
  subst hg
  exact ⟨by simp [gcells], .inr ⟨W.heap.size, 0, _, rfl, hb, World.alloc_heap_new _ _, Nat.zero_le _, by decide, by simp, by simp [gcells]⟩⟩
theorem gown_lt {w : World} {base : Nat} {A : Option Addr} {n c : Nat} {vs : List V} (h : GOwn cs sz t w base A n c vs) : ∀ Y ∈ ownL A, Y < w.heap.size := by
  intro Y hY
  cases A with
  | none => cases hY
  | some a => simp [ownL] at hY; subst hY; exact (h.lt _ rfl).2
theorem gown_ge {w : World} {base : Nat} {A : Option Addr} {n c : Nat} {vs : List V} (h : GOwn cs sz t w base A n c vs) : ∀ Y ∈ ownL A, base ≤ Y := by
  intro Y hY
  cases A with
  | none => cases hY
  | some a => simp [ownL] at hY; subst hY; exact (h.lt _ rfl).1
structure GInfo (ts t : TypeId) (sz bytes : Nat) : Prop where
  hu : Tryz.prog.underlying ts = some (.slice t)
  hi : ∃ z, (Tryz.prog.info? t).map (fun i => (i.zero, i.size, i.bytes)) = some (some z, sz, bytes) ∧ z.cells.size = sz
  hb : bytes ≤ 100000
theorem run_append_g (S : Shape cs sz) {bytes : Nat} (G : GInfo ts t sz bytes) (w : World) (base : Nat) (ty : TypeId) (A0 : Option Addr) (n c0 : Nat) (vs : List V) (hown : GOwn cs sz t w base A0 n c0 vs)
    (A : Option Addr) (m c B : Nat) (vs' : List V) (hm : vs'.length = m) (hr : GRow cs w B A vs') (h63 : n + m ≤ 1000) (hbase : base ≤ w.heap.size) :
    ∃ A' c' w', (Builtin.append_ #[ts, ts] ty #[.slice A0 n c0, .slice A m c]).run Tryz.prog w = .ok (.slice A' (n + m) c') w' ∧ GOwn cs sz t w' base A' (n + m) c' (vs ++ vs') ∧ n + m ≤ c' ∧ w.grownBy w' (Value.slice A0 n c0).ownBlock ∧ Below base w w' ∧ (ownL A' = ownL A0 ∨ ownL A' = [w.heap.size]) := by
  obtain ⟨z, hz0, hzs⟩ := G.hi
  obtain ⟨i, hi, hz, hsize, hby⟩ := info_parts hz0
  have hu := G.hu
  have hbb := G.hb
  have form : ∀ (v' : Value) (w' : World), w'.ownsRow base t sz v' (n + m) (gcells cs (vs ++ vs')) → ∃ A' c', v' = .slice A' (n + m) c' ∧ n + m ≤ c' := by
    intro v' w' h
    rcases h.2 with ⟨rfl, h0⟩ | ⟨g, cap, cur, rfl, _, _, hc, _⟩
    · exact ⟨none, 0, by rw [h0], by omega⟩
    · exact ⟨_, _, rfl, hc⟩
  have low : ∀ k, (Value.slice A0 n c0).ownBlock = some k → base ≤ k := fun k e => (hown.lt k e).1
  have ob : ∀ (a : Option Addr) (x y : Nat) (o : Option Nat), (Value.slice a x y).ownBlock = o → ownL a = (match o with | some k => [k] | none => []) := by
    intro a x y o e; subst e; cases a <;> rfl
  cases A with
  | some ad =>
    have hcells : ∀ j u, (gcells cs vs')[j]? = some u → w.cell? (ad.add j) = some u := by
      rcases hr with rfl | ⟨ad', e, _, hc⟩
      · intro j u hu; simp [gcells] at hu
      · obtain rfl := Option.some.inj e; exact hc
    obtain ⟨v', w', hrun, h2, h3, _, h5⟩ := run_append_own_at (P := Tryz.prog) w base ts ty t i z sz bytes hu hi hz hsize hby hzs S.pos _ n _ hown ad m c (gcells cs vs') (by rw [gcells_len S, hm]) hcells (gcells_one S vs') (by unfold maxLen; omega) (by have : (n + m) * bytes ≤ 1000 * 100000 := Nat.mul_le_mul h63 hbb; omega) hbase
    rw [← gcells_app] at h2
    obtain ⟨A', c', rfl, hc'⟩ := form v' w' h2
    refine ⟨A', c', w', hrun, h2, hc', h3, (Below.refl _ _).grown h3 hbase low, ?_⟩
    rcases h5 with h5 | h5
    · left; rw [ob _ _ _ _ h5]; exact (ob _ _ _ _ rfl).symm
    · right; rw [ob _ _ _ _ h5]
  | none =>
    obtain rfl : vs' = [] := by
      rcases hr with rfl | ⟨ad, e', _⟩
      · rfl
      · cases e'
    obtain rfl : m = 0 := hm.symm
    have hrun : (Builtin.append_ #[ts, ts] ty #[.slice A0 n c0, .slice none 0 c]).run Tryz.prog w = .ok (.slice A0 n c0) w := by
      rcases hown.2 with ⟨e1, rfl⟩ | ⟨g, cap, cur, e1, _, _, hnc, _⟩
      · rw [e1]
        simp [Builtin.append_, run_underlying hu, sizeOf, typeInfo, hi, Builtin.lenOf, Builtin.firstCells]
      · rw [e1]
        simp [Builtin.append_, run_underlying hu, sizeOf, typeInfo, hi, Builtin.lenOf, Builtin.firstCells, hnc, storeCells]
    have h2 : w.ownsRow base t sz (.slice A0 n c0) (n + 0) (gcells cs (vs ++ [])) := by simpa using hown
    obtain ⟨A', c', e, hc'⟩ := form _ w h2
    injection e with e1 e2 e3
    subst e1 e3
    exact ⟨A0, c0, w, hrun, by simpa using hown, hc', ⟨rfl, rfl, rfl, Nat.le_refl _, fun _ _ _ => rfl⟩, Below.refl _ _, .inl rfl⟩
theorem wpList_append_g (S : Shape cs sz) {bytes : Nat} (G : GInfo ts t sz bytes) (w : World) {ops : Array Oper} {rest : List Oper} {o : Oper} {a : Act} {Q : Exit → Act → World → Prop} (hw : Region.wanted o (yielded ops a.tmps) = true) (s x : Operand)
    (ho : o.op = .call { callee := .builtin .append, args := #[s, x], argTypes := #[ts, ts] })
    (base : Nat) (A0 : Option Addr) (n c0 : Nat) (vs : List V) (hs : a.eval s = .slice A0 n c0) (hown : GOwn cs sz t w base A0 n c0 vs)
    (A : Option Addr) (m c B : Nat) (vs' : List V) (hx : a.eval x = .slice A m c) (hm : vs'.length = m) (hr : GRow cs w B A vs')
    (h63 : n + m ≤ 1000) (hbase : base ≤ w.heap.size)
    (h : ∀ A' c' w', GOwn cs sz t w' base A' (n + m) c' (vs ++ vs') → n + m ≤ c' → w.grownBy w' (Value.slice A0 n c0).ownBlock → (ownL A' = ownL A0 ∨ ownL A' = [w.heap.size]) → Below base w w' → wpList Tryz.prog ops Q rest (a.put o.dst (.slice A' (n + m) c')) w') : wpList Tryz.prog ops Q (o :: rest) a w := by
  obtain ⟨A', c', w', hrun, h2, hc', hg, h3, h4⟩ := run_append_g S G w base o.type A0 n c0 vs hown A m c B vs' hm hr h63 hbase
  unfold wpList
  rw [if_pos hw]
  left
  unfold Oper.wp execOp
  simp only [ho, resolve, invoke, builtin, Sem.run_bind, Sem.run_pure, Result.andThen_ok, List.map_toArray, List.map_cons, List.map_nil, hs, hx, hrun]
  exact h A' c' w' h2 hc' hg h4 h3
theorem step_append_g (S : Shape cs sz) {bytes : Nat} (G : GInfo ts t sz bytes) {w : World} {ops : Array Oper} {o : Oper} {a : Act} {K : Act → World → Prop} {Q : Exit → Act → World → Prop} {E : Prop} (hgd : o.guard = none) (s x : Operand)
    (ho : o.op = .call { callee := .builtin .append, args := #[s, x], argTypes := #[ts, ts] })
    (base : Nat) (A0 : Option Addr) (n c0 : Nat) (vs : List V) (hs : a.eval s = .slice A0 n c0) (hown : GOwn cs sz t w base A0 n c0 vs)
    (A : Option Addr) (m c B : Nat) (vs' : List V) (hx : a.eval x = .slice A m c) (hm : vs'.length = m) (hr : GRow cs w B A vs')
    (h63 : n + m ≤ 1000) (hbase : base ≤ w.heap.size) (d : Nat) (hd : o.dst = some d)
    (h : ∀ A' c' w', GOwn cs sz t w' base A' (n + m) c' (vs ++ vs') → n + m ≤ c' → w.grownBy w' (Value.slice A0 n c0).ownBlock → (ownL A' = ownL A0 ∨ ownL A' = [w.heap.size]) → Below base w w' → K (a.put (some d) (.slice A' (n + m) c')) w') :
    if Region.wanted o (yielded ops a.tmps) = true then Oper.wp Tryz.prog o a w K Q else E := by
  obtain ⟨A', c', w', hrun, h2, hc', hg, h3, h4⟩ := run_append_g S G w base o.type A0 n c0 vs hown A m c B vs' hm hr h63 hbase
  have hw : Region.wanted o (yielded ops a.tmps) = true := by simp [Region.wanted, hgd]
  rw [if_pos hw]
  unfold Oper.wp execOp
  simp only [ho, resolve, invoke, builtin, Sem.run_bind, Sem.run_pure, Result.andThen_ok, List.map_toArray, List.map_cons, List.map_nil, hs, hx, hrun]
  rw [← hd] at h
  exact h A' c' w' h2 hc' hg h4 h3
end
def AllIs {V C : Type} (R : V → C → Prop) (vs : List V) (Cs : List C) : Prop := vs.length = Cs.length ∧ ∀ (k : Nat) (v : V) (c : C), vs[k]? = some v → Cs[k]? = some c → R v c
section
variable {V C : Type} {R R' : V → C → Prop} {vs vs' : List V} {Cs Cs' : List C}
theorem AllIs.imp (h : AllIs R vs Cs) (hq : ∀ v c, R v c → R' v c) : AllIs R' vs Cs := ⟨h.1, fun k v c h1 h2 => hq _ _ (h.2 k v c h1 h2)⟩
theorem AllIs.nil : AllIs R [] [] := ⟨rfl, fun k f F h => by simp at h⟩
theorem AllIs.one {v : V} {c : C} (h : R v c) : AllIs R [v] [c] := by
  refine ⟨rfl, fun k g G h1 h2 => ?_⟩
  cases k with
  | zero => simp at h1 h2; subst h1 h2; exact h
  | succ k => simp at h1
theorem AllIs.append (h : AllIs R vs Cs) (h' : AllIs R vs' Cs') : AllIs R (vs ++ vs') (Cs ++ Cs') := by
  refine ⟨by simp [h.1, h'.1], fun k f F h1 h2 => ?_⟩
  by_cases hk : k < vs.length
  · rw [List.getElem?_append_left hk] at h1
    rw [List.getElem?_append_left (by rw [← h.1]; exact hk)] at h2
    exact h.2 k f F h1 h2
  · rw [List.getElem?_append_right (by omega)] at h1
    rw [List.getElem?_append_right (by rw [← h.1]; omega), ← h.1] at h2
    exact h'.2 _ f F h1 h2
theorem AllIs.take (h : AllIs R vs Cs) (j : Nat) : AllIs R (vs.take j) (Cs.take j) := by
  refine ⟨by simp [h.1], fun k f F h1 h2 => ?_⟩
  rw [List.getElem?_take] at h1 h2
  split at h1
  · rename_i hk; rw [if_pos hk] at h2; exact h.2 k f F h1 h2
  · cases h1
theorem AllIs.drop (h : AllIs R vs Cs) (j : Nat) : AllIs R (vs.drop j) (Cs.drop j) := by
  refine ⟨by simp [h.1], fun k f F h1 h2 => ?_⟩
  rw [List.getElem?_drop] at h1 h2
  exact h.2 _ f F h1 h2
theorem AllIs.at_ (h : AllIs R vs Cs) {k : Nat} {c : C} (hc : Cs[k]? = some c) : ∃ v, vs[k]? = some v ∧ R v c := by
  have hk : k < vs.length := by rw [h.1]; exact (List.getElem?_eq_some_iff.1 hc).1
  exact ⟨vs[k], List.getElem?_eq_getElem hk, h.2 k _ _ (List.getElem?_eq_getElem hk) hc⟩
end
end Go.Proofs.YtcifjccojmfpaaaGreat

namespace Go.Proofs.YtcifjccojmfpaaaGreat
open Go.RowKit
set_option linter.unusedVariables false
set_option linter.unusedSimpArgs false
def NV.cs (n : NV) : List Value := [.slice n.qa n.qm n.qc, .slice n.la n.lm n.lc, .int .i64 n.k.t, .int .i64 n.k.r, .int .i64 n.k.s, .int .i64 n.k.q, .slice n.ga n.gm n.gc]
theorem shN : Shape NV.cs 7 := ⟨fun _ => rfl, fun v u hu => by simp only [NV.cs, List.mem_cons, List.not_mem_nil, or_false] at hu; rcases hu with rfl | rfl | rfl | rfl | rfl | rfl | rfl <;> rfl, by decide⟩
theorem Tryz.infoN : GInfo 22 49 7 104 := ⟨Tryz.underlying22, ⟨.agg #[.slice none 0 0, .slice none 0 0, .int .i64 0, .int .i64 0, .int .i64 0, .int .i64 0, .slice none 0 0], by kernel_rfl, by kernel_rfl⟩, by decide⟩
def NAt (w : World) (a : Addr) (n : NV) : Prop :=
  w.cell? a = some (.slice n.qa n.qm n.qc) ∧ w.cell? ⟨a.block, a.off + 1, none⟩ = some (.slice n.la n.lm n.lc) ∧ w.cell? ⟨a.block, a.off + 2, none⟩ = some (.int .i64 n.k.t) ∧ w.cell? ⟨a.block, a.off + 3, none⟩ = some (.int .i64 n.k.r) ∧ w.cell? ⟨a.block, a.off + 4, none⟩ = some (.int .i64 n.k.s) ∧ w.cell? ⟨a.block, a.off + 5, none⟩ = some (.int .i64 n.k.q) ∧ w.cell? ⟨a.block, a.off + 6, none⟩ = some (.slice n.ga n.gm n.gc)
theorem add_zero (a : Addr) : a.add 0 = a := by simp [Addr.add]
theorem nat_of {w : World} {a : Addr} {n : NV} (h : GAt NV.cs w a n) : NAt w a n := by
  have e : ∀ i, 0 < i → a.add i = ⟨a.block, a.off + i, none⟩ := fun i hi => add_pos a i hi
  refine ⟨?_, ?_, ?_, ?_, ?_, ?_, ?_⟩
  · have := h 0 _ rfl; rwa [add_zero] at this
  · have := h 1 _ rfl; rwa [e 1 (by omega)] at this
  · have := h 2 _ rfl; rwa [e 2 (by omega)] at this
  · have := h 3 _ rfl; rwa [e 3 (by omega)] at this
  · have := h 4 _ rfl; rwa [e 4 (by omega)] at this
  · have := h 5 _ rfl; rwa [e 5 (by omega)] at this
  · have := h 6 _ rfl; rwa [e 6 (by omega)] at this
theorem nat_to {w w' : World} {a : Addr} {n : NV} (h : NAt w a n) (b : Below w.heap.size w w') : NAt w' a n := by
  obtain ⟨h0, h1, h2, h3, h4, h5, h6⟩ := h
  have k : ∀ (p : Addr) (v : Value), w.cell? p = some v → w'.cell? p = some v := fun p v hv => by rw [b.cell (World.block_lt_of_cell? _ _ hv)]; exact hv
  exact ⟨k _ _ h0, k _ _ h1, k _ _ h2, k _ _ h3, k _ _ h4, k _ _ h5, k _ _ h6⟩
structure NSl (w : World) (P : Nat → Prop) (A : Option Addr) (n c : Nat) (Ns : List NC) : Prop where
  len : Ns.length = n
  cap : n ≤ c
  big : n ≤ maxLen
  row : ∃ ns, GRow NV.cs w w.heap.size A ns ∧ AllIs (NIs w P) ns Ns
  inP : InP P A n
section
variable {w w' : World} {P Q : Nat → Prop} {A : Option Addr} {n c : Nat} {Ns : List NC}
theorem NSl.to (h : NSl w P A n c Ns) (b : Below w.heap.size w w') : NSl w' P A n c Ns := ⟨h.len, h.cap, h.big, (let ⟨ns, h1, h2⟩ := h.row; ⟨ns, h1.to b, h2.imp fun _ _ h => h.to b⟩), h.inP⟩
theorem NSl.grow {X : Nat} (h : NSl w P A n c Ns) (g : w.grownBy w' (some X)) (hX : ¬ P X) : NSl w' P A n c Ns := by
  refine ⟨h.len, h.cap, h.big, ?_, h.inP⟩
  obtain ⟨ns, h1, h2⟩ := h.row
  exact ⟨ns, h1.grow g (fun hl => h.inP.grow hX (by have h3 := List.length_pos_iff.2 hl; have h4 := h2.1; have h5 := h.len; omega)), h2.imp fun _ _ h => h.grow g hX⟩
theorem NSl.mono (h : NSl w P A n c Ns) (hq : ∀ b, b < w.heap.size → P b → Q b) : NSl w Q A n c Ns := by
  refine ⟨h.len, h.cap, h.big, (let ⟨fs, h1, h2⟩ := h.row; ⟨fs, h1, h2.imp fun _ _ h => h.mono hq⟩), fun h0 ad e => ?_⟩
  obtain ⟨fs, h1, h2⟩ := h.row
  rcases h1 with rfl | ⟨ad', e', hb, _⟩
  · have := h2.1; have := h.len; simp at *; omega
  · have : ad' = ad := Option.some.inj (e'.symm.trans e)
    subst this
    exact hq _ hb (h.inP h0 _ e)
theorem NSl.none_ : NSl w P none 0 0 [] := ⟨rfl, Nat.le_refl _, by decide, ⟨[], .inl rfl, AllIs.nil⟩, fun h => absurd h (by decide)⟩
theorem NSl.at_ (h : NSl w P A n c Ns) {k : Nat} (hk : k < n) : ∃ ad x, A = some ad ∧ NAt w (ad.add (k * 7)) x ∧ NIs w P x (Ns.getD k zeroN) := by
  obtain ⟨ns, h1, h2⟩ := h.row
  have hk2 : k < Ns.length := by rw [h.len]; exact hk
  have e : Ns[k]? = some (Ns.getD k zeroN) := by simp [List.getD, List.getElem?_eq_getElem hk2]
  obtain ⟨x, hx, hi⟩ := h2.at_ e
  obtain ⟨ad, e', _, ha⟩ := h1.at_lt shN hx
  exact ⟨ad, x, e', nat_of ha, hi⟩
abbrev NOwn (w : World) (base : Nat) (A : Option Addr) (n c : Nat) (ns : List NV) : Prop := GOwn NV.cs 7 49 w base A n c ns
theorem NSl.own {base : Nat} {ns : List NV} (h : NOwn w base A n c ns) (h' : AllIs (NIs w P) ns Ns) (hn : n ≤ 1000) (hP : ∀ b, base ≤ b → P b) : NSl w P A n c Ns :=
  ⟨by rw [← h'.1]; exact GOwn.len shN h, GOwn.cap h, by unfold maxLen; omega, ⟨ns, GRow.own shN h, h'⟩, own_inP h hP n⟩
end
end Go.Proofs.YtcifjccojmfpaaaGreat

namespace Go.Proofs.YtcifjccojmfpaaaGreat
open Go.RowKit
set_option linter.unusedVariables false
set_option linter.unusedSimpArgs false
theorem out_low10 {s : Nat} {P : Nat → Prop} : ∀ b, b < s → P b → Out [s] b := by
  intro b hb _ Y hY
  simp at hY; omega
theorem winner_c {w : World} {P : Nat → Prop} {A : Option Addr} {n c : Nat} {Ns : List NC} (h : NSl w P A n c Ns) (hok : OkNs Ns) (hm : n ≤ 100) (z : Int) (hz : winN Ns = z) :
    Calls Tryz.prog 25 #[.slice A n c] w fun e w' => e = .returned (.int .i64 z) ∧ Below w.heap.size w w' := by
  have Hok := Lib.hid hok
  have Hl := Lib.hid h.len
  have hS : NSl w (Out [w.heap.size]) A n c Ns := h.mono out_low10
  unfold winN at hz
  rw [h.len] at hz
  have Hz := Lib.hid hz
  clear hok hz h
  have hT0 : Below w.heap.size w w := Below.refl _ _
  go_enter Tryz.func25, Tryz.ntmps25
  go_wp2_with fail
  have hgeb : w.heap.size ≤ w.heap.size := hT0.size
  obtain ⟨w1, hw1⟩ : ∃ w1, w.alloc (.cells #[.bool false, .int .i64 0, .bool false, .int .i64 0, .slice none 0 0] 34) = w1 := ⟨_, rfl⟩
  have hB1 : Below w.heap.size w w1 := by rw [← hw1]; exact below_alloc1 _ _
  have hb1 : w1.heap[w.heap.size]? = some (.cells #[.bool false, .int .i64 0, .bool false, .int .i64 0, .slice none 0 0] 34) := by rw [← hw1]; exact World.alloc_heap_new _ _
  rw [hw1]
  clear hw1
  have hT1 := below_then hT0 hB1
  clear hT0   hB1
  go_loopw [3, 5] (fun a i wr => ∃ (k : Nat) (x : Int) (f : FV), k ≤ n ∧ i = .int .i64 k ∧ a = .int .i64 x ∧ Hid (winTo Ns k = x) ∧ wr.heap[w.heap.size]? = some (.cells #[.bool f.x, .int .i64 f.i, .bool f.r, .int .i64 f.n, .slice f.a f.m f.c] 34) ∧ FIs wr (Out [w.heap.size]) f (bestTo Ns k) ∧ Below w.heap.size w wr) (fun _ i _ => n - (intOf i).toNat)
  case atStart => exact ⟨0, -1, zeroFV, Nat.zero_le _, rfl, rfl, Lib.hid rfl, hb1, fis_zero, hT1⟩
  case round =>
    clear hb1 hT1
    obtain ⟨k, x, f, hk, rfl, rfl, Hx, hb50, hF50, hT50⟩ := hrel
    by_cases hlt : k < n
    · skip
      have j1 : (k : Int) < (n : Int) := by omega
      obtain ⟨ad, m, ea_, hAt50, hV50⟩ := NSl.at_ (hS.to hT50) hlt
      obtain ⟨N, hN_⟩ : ∃ N_, Ns.getD k zeroN = N_ := ⟨_, rfl⟩
      rw [hN_] at hV50
      have HN := Lib.hid hN_
      clear hN_
      subst ea_
      have HokN := Lib.hid (show OkN N by rw [← HN.out]; exact Hok.out.at_ (by rw [Hl.out]; exact hlt))
      have ht_ := hAt50
      obtain ⟨t0, t1, t2, t3, t4, t5, t6⟩ := ht_
      have hlb := (Array.getElem?_eq_some_iff.1 hb50).1
      obtain ⟨bc0, bc1, bc2, bc3, bc4⟩ := cells5' hb50
      go_wp2_with fail
      clear t0 t1 t2 t3 t4 t5 t6 hlb bc0 bc1 bc2 bc3 bc4
      obtain ⟨q, hq⟩ : ∃ q, hasN N = q := ⟨_, rfl⟩
      have Hq := Lib.hid hq
      clear hq
      obtain ⟨G, hG⟩ : ∃ q, nextF N = q := ⟨_, rfl⟩
      have HG := Lib.hid hG
      clear hG
      refine (refNext_c hV50 HokN.out q Hq.out G HG.out).mono ?_
      rintro e w51 ⟨g, rfl, hGg_, hB51⟩
      have hT51 := below_then hT50 hB51
      have hb51 := block_below hB51 hb50
      have hF51 := FIs.to hF50 hB51
      have hV51 := NIs.to hV50 hB51
      have hAt51 := nat_to hAt50 hB51
      clear hT50 hb50 hF50 hV50 hAt50 hB51
      have hGg51 := hGg_
      clear hGg_
      have hlb := (Array.getElem?_eq_some_iff.1 hb51).1
      obtain ⟨bc0, bc1, bc2, bc3, bc4⟩ := cells5' hb51
      go_wp2_with fail
      clear hlb bc0 bc1 bc2 bc3 bc4
      clear hAt51
      clear hV51
      have hgeg : w.heap.size ≤ w51.heap.size := hT51.size
      have Hb_g := Lib.hid (show w.heap.size ≠ w51.heap.size from Nat.ne_of_lt (Array.getElem?_eq_some_iff.1 hb51).1)
      have Hg_b := Lib.hid (show w51.heap.size ≠ w.heap.size from Ne.symm Hb_g.out)
      obtain ⟨w52, hw52⟩ : ∃ w52, w51.alloc (.cells #[.bool g.x, .int .i64 g.i, .bool g.r, .int .i64 g.n, .slice g.a g.m g.c] 34) = w52 := ⟨_, rfl⟩
      have hB52 : Below w51.heap.size w51 w52 := by rw [← hw52]; exact below_alloc1 _ _
      have hg52 : w52.heap[w51.heap.size]? = some (.cells #[.bool g.x, .int .i64 g.i, .bool g.r, .int .i64 g.n, .slice g.a g.m g.c] 34) := by rw [← hw52]; exact World.alloc_heap_new _ _
      rw [hw52]
      clear hw52
      have hT52 := below_then hT51 hB52
      have hb52 := block_below hB52 hb51
      have hF52 := FIs.to hF51 hB52
      have hGg52 := FIs.to hGg51 hB52
      clear hT51 hb51 hF51 hGg51 hB52
      have Hstep := Lib.hid (show winTo Ns (k + 1) = if q && (decide (x < 0) || lessC G (nextF (nd Ns x.toNat))) then (k : Int) else x by rw [winTo, Hx.out, show nd Ns k = N from HN.out, Hq.out, HG.out])
      cases q
      · skip
        refine wp_region_held_drew (S := fun W => True) (by kernel_rfl) (by exact trivial) (fun hHeld_ => ?_)
        refine wpAnyH_take' (i := 0) (v := ?v0_t1) 23 rfl rfl (by kernel_rfl) (by kernel_rfl) (by kernel_rfl) (fun _ _ _ h => h) (Or.inl ⟨by kernel_rfl, ?hy0_t1⟩) (by assumption) ?rest0_t1
        case hy0_t1 => (intro W_ hS_; (try dsimp only at hS_); go_simp; (try (with_reducible rfl)))
        try simp only [Act.put, siA, scZ, scS]
        refine wpAnyH_take' (i := 1) (v := ?v1_t1) 24 rfl rfl (by kernel_rfl) (by kernel_rfl) (by kernel_rfl) (fun _ _ _ h => h) (Or.inl ⟨by kernel_rfl, ?hy1_t1⟩) (by assumption) ?rest1_t1
        case hy1_t1 => (intro W_ hS_; (try dsimp only at hS_); go_simp; (try (with_reducible rfl)))
        try simp only [Act.put, siA, scZ, scS]
        refine wpAnyH_take' (i := 2) (v := undef) 25 rfl rfl (by kernel_rfl) (by kernel_rfl) (by kernel_rfl) (fun _ _ _ h => h) (Or.inr ⟨by kernel_rfl, rfl⟩) (by assumption) ?_
        try simp only [Act.put, siA, scZ, scS]
        refine wpAnyH_take' (i := 3) (v := undef) 26 rfl rfl (by kernel_rfl) (by kernel_rfl) (by kernel_rfl) (fun _ _ _ h => h) (Or.inr ⟨by kernel_rfl, rfl⟩) (by assumption) ?_
        try simp only [Act.put, siA, scZ, scS]
        refine wpAnyH_take' (i := 4) (v := undef) 27 rfl rfl (by kernel_rfl) (by kernel_rfl) (by kernel_rfl) (fun _ _ _ h => h) (Or.inr ⟨by kernel_rfl, rfl⟩) (by assumption) ?_
        try simp only [Act.put, siA, scZ, scS]
        refine wpAnyH_take' (i := 5) (v := undef) 28 rfl rfl (by kernel_rfl) (by kernel_rfl) (by kernel_rfl) (fun _ _ _ h => h) (Or.inr ⟨by kernel_rfl, rfl⟩) (by assumption) ?_
        try simp only [Act.put, siA, scZ, scS]
        refine wpAnyH_take' (i := 7) (v := undef) 30 rfl rfl (by kernel_rfl) (by kernel_rfl) (by kernel_rfl) (fun _ _ _ h => h) (Or.inr ⟨by kernel_rfl, rfl⟩) (by assumption) ?_
        try simp only [Act.put, siA, scZ, scS]
        refine wpAnyH_skip (i := 6) 29 rfl rfl (by kernel_rfl) (by kernel_rfl) (by assumption) ?_
        try simp only [Act.put, siA, scZ, scS]
        refine wpAnyH_skip (i := 8) 31 rfl rfl (by kernel_rfl) (by kernel_rfl) (by assumption) ?_
        try simp only [Act.put, siA, scZ, scS]
        refine wpAnyH_skip (i := 9) 32 rfl rfl (by kernel_rfl) (by kernel_rfl) (by assumption) ?_
        try simp only [Act.put, siA, scZ, scS]
        refine wpAnyH_take' (i := 10) (v := undef) 33 rfl rfl (by kernel_rfl) (by kernel_rfl) (by kernel_rfl) (fun _ _ _ h => h) (Or.inr ⟨by kernel_rfl, rfl⟩) (by assumption) ?_
        try simp only [Act.put, siA, scZ, scS]
        refine wpAnyH_take' (i := 11) (v := ?v11_t1) 34 rfl rfl (by kernel_rfl) (by kernel_rfl) (by kernel_rfl) (fun _ _ _ h => h) (Or.inl ⟨by kernel_rfl, ?hy11_t1⟩) (by assumption) ?rest11_t1
        case hy11_t1 => (intro W_ hS_; (try dsimp only at hS_); go_simp; (try (with_reducible rfl)))
        try simp only [Act.put, siA, scZ, scS]
        refine wpAnyH_done (by kernel_rfl) ?_ _
        obtain ⟨w53, hw53⟩ : ∃ w53, w52.drew = w53 := ⟨_, rfl⟩
        have hB53 : Below w52.heap.size w52 w53 := by rw [← hw53]; exact (below_drew1 _)
        rw [hw53]
        clear hw53
        have hT53 := below_then hT52 hB53
        have hb53 := block_below hB53 hb52
        have hg53 := block_below hB53 hg52
        have hF53 := FIs.to hF52 hB53
        have hGg53 := FIs.to hGg52 hB53
        clear hT52 hb52 hg52 hF52 hGg52 hB53
        have Hnew := Lib.hid (show winTo Ns (k + 1) = x by rw [Hstep.out]; rfl)
        have hlb := (Array.getElem?_eq_some_iff.1 hb53).1
        obtain ⟨bc0, bc1, bc2, bc3, bc4⟩ := cells5' hb53
        have hlg := (Array.getElem?_eq_some_iff.1 hg53).1
        obtain ⟨gc0, gc1, gc2, gc3, gc4⟩ := cells5' hg53
        go_wp2_with fail
        clear hlb bc0 bc1 bc2 bc3 bc4 hlg gc0 gc1 gc2 gc3 gc4
        have HsB := Lib.hid (show bestTo Ns (k + 1) = bestTo Ns k by unfold bestTo; rw [Hnew.out, Hx.out])
        go_round
        case measure => simp [intOf]; omega
        exact ⟨k + 1, x, f, by omega, by go_num, rfl, Lib.hid (Hnew.out), hb53, (by rw [HsB.out]; exact hF53), hT53⟩
      by_cases hx0 : x < 0
      · skip
        have d0 : decide (x < 0) = true := by simpa using hx0
        refine wp_region_held_drew (S := fun W => True) (by kernel_rfl) (by exact trivial) (fun hHeld_ => ?_)
        refine wpAnyH_take' (i := 0) (v := ?v0_t2) 23 rfl rfl (by kernel_rfl) (by kernel_rfl) (by kernel_rfl) (fun _ _ _ h => h) (Or.inl ⟨by kernel_rfl, ?hy0_t2⟩) (by assumption) ?rest0_t2
        case hy0_t2 => (intro W_ hS_; (try dsimp only at hS_); go_simp; (try (with_reducible rfl)))
        try simp only [Act.put, siA, scZ, scS]
        refine wpAnyH_take' (i := 1) (v := ?v1_t2) 24 rfl rfl (by kernel_rfl) (by kernel_rfl) (by kernel_rfl) (fun _ _ _ h => h) (Or.inl ⟨by kernel_rfl, ?hy1_t2⟩) (by assumption) ?rest1_t2
        case hy1_t2 => (intro W_ hS_; (try dsimp only at hS_); go_simp; (try (with_reducible rfl)))
        try simp only [Act.put, siA, scZ, scS]
        refine wpAnyH_take' (i := 2) (v := ?v2_t2) 25 rfl rfl (by kernel_rfl) (by kernel_rfl) (by kernel_rfl) (fun _ _ _ h => h) (Or.inl ⟨by kernel_rfl, ?hy2_t2⟩) (by assumption) ?rest2_t2
        case hy2_t2 => (intro W_ hS_; (try dsimp only at hS_); go_simp; (try (with_reducible rfl)))
        try simp only [Act.put, siA, scZ, scS]
        refine wpAnyH_take' (i := 3) (v := ?v3_t2) 26 rfl rfl (by kernel_rfl) (by kernel_rfl) (by kernel_rfl) (fun _ _ _ h => h) (Or.inl ⟨by kernel_rfl, ?hy3_t2⟩) (by assumption) ?rest3_t2
        case hy3_t2 => (intro W_ hS_; (try dsimp only at hS_); go_simp; (try (with_reducible rfl)))
        try simp only [Act.put, siA, scZ, scS]
        refine wpAnyH_take' (i := 4) (v := ?v4_t2) 27 rfl rfl (by kernel_rfl) (by kernel_rfl) (by kernel_rfl) (fun _ _ _ h => h) (Or.inl ⟨by kernel_rfl, ?hy4_t2⟩) (by assumption) ?rest4_t2
        case hy4_t2 => (intro W_ hS_; (try dsimp only at hS_); go_simp; (try (with_reducible rfl)))
        try simp only [Act.put, siA, scZ, scS]
        refine wpAnyH_take' (i := 5) (v := undef) 28 rfl rfl (by kernel_rfl) (by kernel_rfl) (by kernel_rfl) (fun _ _ _ h => h) (Or.inr ⟨by kernel_rfl, rfl⟩) (by assumption) ?_
        try simp only [Act.put, siA, scZ, scS]
        refine wpAnyH_take' (i := 7) (v := undef) 30 rfl rfl (by kernel_rfl) (by kernel_rfl) (by kernel_rfl) (fun _ _ _ h => h) (Or.inr ⟨by kernel_rfl, rfl⟩) (by assumption) ?_
        try simp only [Act.put, siA, scZ, scS]
        refine wpAnyH_skip (i := 6) 29 rfl rfl (by kernel_rfl) (by kernel_rfl) (by assumption) ?_
        try simp only [Act.put, siA, scZ, scS]
        refine wpAnyH_skip (i := 8) 31 rfl rfl (by kernel_rfl) (by kernel_rfl) (by assumption) ?_
        try simp only [Act.put, siA, scZ, scS]
        refine wpAnyH_skip (i := 9) 32 rfl rfl (by kernel_rfl) (by kernel_rfl) (by assumption) ?_
        try simp only [Act.put, siA, scZ, scS]
        refine wpAnyH_take' (i := 10) (v := ?v10_t2) 33 rfl rfl (by kernel_rfl) (by kernel_rfl) (by kernel_rfl) (fun _ _ _ h => h) (Or.inl ⟨by kernel_rfl, ?hy10_t2⟩) (by assumption) ?rest10_t2
        case hy10_t2 => (intro W_ hS_; (try dsimp only at hS_); go_simp; (try (with_reducible rfl)))
        try simp only [Act.put, siA, scZ, scS]
        refine wpAnyH_take' (i := 11) (v := ?v11_t2) 34 rfl rfl (by kernel_rfl) (by kernel_rfl) (by kernel_rfl) (fun _ _ _ h => h) (Or.inl ⟨by kernel_rfl, ?hy11_t2⟩) (by assumption) ?rest11_t2
        case hy11_t2 => (intro W_ hS_; (try dsimp only at hS_); go_simp; (try (with_reducible rfl)))
        try simp only [Act.put, siA, scZ, scS]
        refine wpAnyH_done (by kernel_rfl) ?_ _
        obtain ⟨w53, hw53⟩ : ∃ w53, w52.drew = w53 := ⟨_, rfl⟩
        have hB53 : Below w52.heap.size w52 w53 := by rw [← hw53]; exact (below_drew1 _)
        rw [hw53]
        clear hw53
        have hT53 := below_then hT52 hB53
        have hb53 := block_below hB53 hb52
        have hg53 := block_below hB53 hg52
        have hF53 := FIs.to hF52 hB53
        have hGg53 := FIs.to hGg52 hB53
        clear hT52 hb52 hg52 hF52 hGg52 hB53
        have Hnew := Lib.hid (show winTo Ns (k + 1) = k by rw [Hstep.out, d0]; rfl)
        have hlb := (Array.getElem?_eq_some_iff.1 hb53).1
        obtain ⟨⟨bc0, bc1, bc2, bc3, bc4⟩, bf0, bf1, bf2, bf3, bf4⟩ := cells5 hb53
        have hlg := (Array.getElem?_eq_some_iff.1 hg53).1
        obtain ⟨gc0, gc1, gc2, gc3, gc4⟩ := cells5' hg53
        go_wp2_with fail
        clear hlb bc0 bc1 bc2 bc3 bc4 bf0 bf1 bf2 bf3 bf4 hlg gc0 gc1 gc2 gc3 gc4
        obtain ⟨w54, hw54⟩ : ∃ w_, set5 w53 w.heap.size (.bool g.x) (.int .i64 g.i) (.bool g.r) (.int .i64 g.n) (.slice g.a g.m g.c) = w_ := ⟨_, rfl⟩
        have hG54 : w53.grownBy w54 (some w.heap.size) := by rw [← hw54]; exact set5_grown _ _ _ _ _ _ _
        have hT54 := below_g hT53 hG54 hgeb
        have hb54 : w54.heap[w.heap.size]? = some (.cells #[.bool g.x, .int .i64 g.i, .bool g.r, .int .i64 g.n, .slice g.a g.m g.c] 34) := by rw [← hw54]; exact set5_obj hb53 _ _ _ _ _
        have hg54 := other_g hG54 hg53 Hg_b.out
        have hF54 := FIs.grow hF53 hG54 (out_not (by simp))
        have hGg54 := FIs.grow hGg53 hG54 (out_not (by simp))
        have Hsz54 := Lib.hid (show w54.heap.size = w53.heap.size by rw [← hw54]; simp [set5, World.setCell])
        unfold set5 at hw54
        rw [hw54]
        clear hw54 hG54 hT53 hb53 hg53 hF53 hGg53
        have HsB := Lib.hid (show bestTo Ns (k + 1) = G by unfold bestTo; rw [Hnew.out, if_neg (by omega), Int.toNat_natCast, show nd Ns k = N from HN.out, HG.out])
        go_round
        case measure => simp [intOf]; omega
        exact ⟨k + 1, (k : Int), g, by omega, by go_num, rfl, Lib.hid (Hnew.out), hb54, (by rw [HsB.out]; exact hGg54), hT54⟩
      have d0 : decide (x < 0) = false := by simpa using hx0
      obtain ⟨B, hB_⟩ : ∃ B, bestTo Ns k = B := ⟨_, rfl⟩
      rw [hB_] at hF52
      have HB := Lib.hid hB_
      clear hB_
      have HBx := Lib.hid (show nextF (nd Ns x.toNat) = B by rw [← HB.out]; unfold bestTo; rw [Hx.out, if_neg hx0])
      have HGo := Lib.hid (show okC G by rw [← HG.out]; exact okC_of (next_right HokN.out Hq.out))
      have HBo := Lib.hid (show okC B by
        rw [← HBx.out]
        rcases winTo_spec Ns k with ⟨h1, _⟩ | ⟨a, ha, h1, h2, _⟩
        · have := Hx.out; omega
        · have e : x.toNat = a := by have := Hx.out; omega
          rw [e]; exact okC_of (next_right (Hok.out.at_ (by rw [Hl.out]; omega)) h2))
      obtain ⟨n1, hn1_⟩ : ∃ n_, (rankC G).length = n_ := ⟨_, rfl⟩
      have hln1 := rankC_le G
      rw [hn1_] at hln1
      have Hn1 := Lib.hid hn1_
      clear hn1_
      obtain ⟨n2, hn2_⟩ : ∃ n_, (rankC B).length = n_ := ⟨_, rfl⟩
      have hln2 := rankC_le B
      rw [hn2_] at hln2
      have Hn2 := Lib.hid hn2_
      clear hn2_
      obtain ⟨l, hl⟩ : ∃ q, lessC G B = q := ⟨_, rfl⟩
      have Hl := Lib.hid hl
      clear hl
      have Hl6 := Lib.hid (show lessB (rankC G) (rankC B) = l by rw [less6_eq HGo.out HBo.out]; exact Hl.out)
      refine wp_region_held_drew (S := fun W => (W.cell? ⟨w.heap.size, 0, none⟩ = some (.bool f.x) ∧ W.cell? ⟨w.heap.size, 1, none⟩ = some (.int .i64 f.i) ∧ W.cell? ⟨w.heap.size, 2, none⟩ = some (.bool f.r) ∧ W.cell? ⟨w.heap.size, 3, none⟩ = some (.int .i64 f.n) ∧ W.cell? ⟨w.heap.size, 4, none⟩ = some (.slice f.a f.m f.c)) ∧ (W.cell? ⟨w51.heap.size, 0, none⟩ = some (.bool g.x) ∧ W.cell? ⟨w51.heap.size, 1, none⟩ = some (.int .i64 g.i) ∧ W.cell? ⟨w51.heap.size, 2, none⟩ = some (.bool g.r) ∧ W.cell? ⟨w51.heap.size, 3, none⟩ = some (.int .i64 g.n) ∧ W.cell? ⟨w51.heap.size, 4, none⟩ = some (.slice g.a g.m g.c))) (by kernel_rfl) (by exact ⟨cells5' (block_below (below_drew1 _) hb52), cells5' (block_below (below_drew1 _) hg52)⟩) (fun hHeld_ => ?_)
      refine wpAnyH_take' (i := 0) (v := ?v0_t3) 23 rfl rfl (by kernel_rfl) (by kernel_rfl) (by kernel_rfl) (fun _ _ _ h => h) (Or.inl ⟨by kernel_rfl, ?hy0_t3⟩) (by assumption) ?rest0_t3
      case hy0_t3 => (intro W_ hS_; (try dsimp only at hS_); go_simp; (try (with_reducible rfl)))
      try simp only [Act.put, siA, scZ, scS]
      refine wpAnyH_take' (i := 1) (v := ?v1_t3) 24 rfl rfl (by kernel_rfl) (by kernel_rfl) (by kernel_rfl) (fun _ _ _ h => h) (Or.inl ⟨by kernel_rfl, ?hy1_t3⟩) (by assumption) ?rest1_t3
      case hy1_t3 => (intro W_ hS_; (try dsimp only at hS_); go_simp; (try (with_reducible rfl)))
      try simp only [Act.put, siA, scZ, scS]
      refine wpAnyH_take' (i := 2) (v := ?v2_t3) 25 rfl rfl (by kernel_rfl) (by kernel_rfl) (by kernel_rfl) (fun _ _ _ h => h) (Or.inl ⟨by kernel_rfl, ?hy2_t3⟩) (by assumption) ?rest2_t3
      case hy2_t3 => (intro W_ hS_; (try dsimp only at hS_); go_simp; (try (with_reducible rfl)))
      try simp only [Act.put, siA, scZ, scS]
      refine wpAnyH_take' (i := 3) (v := ?v3_t3) 26 rfl rfl (by kernel_rfl) (by kernel_rfl) (by kernel_rfl) (fun _ _ _ h => h) (Or.inl ⟨by kernel_rfl, ?hy3_t3⟩) (by assumption) ?rest3_t3
      case hy3_t3 => (intro W_ hS_; (try dsimp only at hS_); go_simp; (try (with_reducible rfl)))
      try simp only [Act.put, siA, scZ, scS]
      refine wpAnyH_take' (i := 4) (v := ?v4_t3) 27 rfl rfl (by kernel_rfl) (by kernel_rfl) (by kernel_rfl) (fun _ _ _ h => h) (Or.inl ⟨by kernel_rfl, ?hy4_t3⟩) (by assumption) ?rest4_t3
      case hy4_t3 => (intro W_ hS_; (try dsimp only at hS_); go_simp; (try (with_reducible rfl)))
      try simp only [Act.put, siA, scZ, scS]
      refine wpAnyH_take' (i := 5) (v := ?v5_t3) 28 rfl rfl (by kernel_rfl) (by kernel_rfl) (by kernel_rfl) (fun _ _ _ h => h) (Or.inl ⟨by kernel_rfl, ?hy5_t3⟩) (by assumption) ?rest5_t3
      case hy5_t3 => (intro W_ hS_; (try dsimp only at hS_); go_simp; (try (with_reducible rfl)))
      try simp only [Act.put, siA, scZ, scS]
      refine wpAnyH_take' (i := 7) (v := ?v7_t3) 30 rfl rfl (by kernel_rfl) (by kernel_rfl) (by kernel_rfl) (fun _ _ _ h => h) (Or.inl ⟨by kernel_rfl, ?hy7_t3⟩) (by assumption) ?rest7_t3
      case hy7_t3 => (intro W_ hS_; (try dsimp only at hS_); go_simp; (try (with_reducible rfl)))
      try simp only [Act.put, siA, scZ, scS]
      refine wpAnyH_ready (rs := [6]) (by kernel_rfl) (by simp) ?_
      refine AllReadyH.cons rfl (fun K_ hK_ => ?_) AllReadyH.nil
      go_simp
      refine (refRank_c (FIs.to hGg52 (below_drew1 _)) HGo.out n1 Hn1.out).mono ?_; rintro e wr6 ⟨A6, c6, rfl, hr1_, hc6, hBr6⟩
      go_wp2_with fail
      refine hK_.out _ _ (by exact ⟨cells5' (block_below hBr6 (block_below (below_drew1 _) hb52)), cells5' (block_below hBr6 (block_below (below_drew1 _) hg52))⟩) (fun hHeld_6 => ?_)
      clear hK_
      try simp only [Act.put, siA, scZ, scS]
      refine wpAnyH_ready (rs := [8]) (by kernel_rfl) (by simp) ?_
      refine AllReadyH.cons rfl (fun K_ hK_ => ?_) AllReadyH.nil
      go_simp
      refine (refRank_c (FIs.to (FIs.to hF52 (below_drew1 _)) hBr6) HBo.out n2 Hn2.out).mono ?_; rintro e wr8 ⟨A8, c8, rfl, hr2_, hc8, hBr8⟩
      go_wp2_with fail
      refine hK_.out _ _ (by exact ⟨cells5' (block_below hBr8 (block_below hBr6 (block_below (below_drew1 _) hb52))), cells5' (block_below hBr8 (block_below hBr6 (block_below (below_drew1 _) hg52)))⟩) (fun hHeld_8 => ?_)
      clear hK_
      try simp only [Act.put, siA, scZ, scS]
      refine wpAnyH_ready (rs := [9]) (by kernel_rfl) (by simp) ?_
      refine AllReadyH.cons rfl (fun K_ hK_ => ?_) AllReadyH.nil
      go_simp
      refine (lessGo_any (rankC G) (rankC B) n1 n2 Hn1.out Hn2.out A6 A8 c6 c8 _ (Row.to hr1_ hBr8) hr2_ (by omega) (by omega) l Hl6.out).mono ?_; rintro e wr9 ⟨rfl, hBr9⟩
      go_wp2_with fail
      refine hK_.out _ _ (by exact ⟨cells5' (block_below hBr9 (block_below hBr8 (block_below hBr6 (block_below (below_drew1 _) hb52)))), cells5' (block_below hBr9 (block_below hBr8 (block_below hBr6 (block_below (below_drew1 _) hg52))))⟩) (fun hHeld_9 => ?_)
      clear hK_
      try simp only [Act.put, siA, scZ, scS]
      refine wpAnyH_take' (i := 10) (v := ?v10_t3) 33 rfl rfl (by kernel_rfl) (by kernel_rfl) (by kernel_rfl) (fun _ _ _ h => h) (Or.inl ⟨by kernel_rfl, ?hy10_t3⟩) (by assumption) ?rest10_t3
      case hy10_t3 => (intro W_ hS_; (try dsimp only at hS_); go_simp; (try (with_reducible rfl)))
      try simp only [Act.put, siA, scZ, scS]
      refine wpAnyH_take' (i := 11) (v := ?v11_t3) 34 rfl rfl (by kernel_rfl) (by kernel_rfl) (by kernel_rfl) (fun _ _ _ h => h) (Or.inl ⟨by kernel_rfl, ?hy11_t3⟩) (by assumption) ?rest11_t3
      case hy11_t3 => (intro W_ hS_; (try dsimp only at hS_); go_simp; (try (with_reducible rfl)))
      try simp only [Act.put, siA, scZ, scS]
      refine wpAnyH_done (by kernel_rfl) ?_ _
      obtain ⟨w53, hw53⟩ : ∃ w53, wr9 = w53 := ⟨_, rfl⟩
      have hB53 : Below w52.heap.size w52 w53 := by rw [← hw53]; exact (below_then (below_then (below_then (below_drew1 _) hBr6) hBr8) hBr9)
      have hr153 := (Row.to (Row.to hr1_ hBr8) hBr9)
      rw [hw53] at hr153
      have hr253 := (Row.to hr2_ hBr9)
      rw [hw53] at hr253
      rw [hw53]
      clear hw53 hr1_ hr2_ hBr6 hBr8 hBr9
      have hT53 := below_then hT52 hB53
      have hb53 := block_below hB53 hb52
      have hg53 := block_below hB53 hg52
      have hF53 := FIs.to hF52 hB53
      have hGg53 := FIs.to hGg52 hB53
      clear hT52 hb52 hg52 hF52 hGg52 hB53
      clear hr153
      clear hr253
      cases l
      · skip
        have Hnew := Lib.hid (show winTo Ns (k + 1) = x by rw [Hstep.out, d0, HBx.out, Hl.out]; rfl)
        rw [← HB.out] at hF53
        have hlb := (Array.getElem?_eq_some_iff.1 hb53).1
        obtain ⟨bc0, bc1, bc2, bc3, bc4⟩ := cells5' hb53
        have hlg := (Array.getElem?_eq_some_iff.1 hg53).1
        obtain ⟨gc0, gc1, gc2, gc3, gc4⟩ := cells5' hg53
        go_wp2_with fail
        clear hlb bc0 bc1 bc2 bc3 bc4 hlg gc0 gc1 gc2 gc3 gc4
        have HsB := Lib.hid (show bestTo Ns (k + 1) = bestTo Ns k by unfold bestTo; rw [Hnew.out, Hx.out])
        go_round
        case measure => simp [intOf]; omega
        exact ⟨k + 1, x, f, by omega, by go_num, rfl, Lib.hid (Hnew.out), hb53, (by rw [HsB.out]; exact hF53), hT53⟩
      have Hnew := Lib.hid (show winTo Ns (k + 1) = k by rw [Hstep.out, d0, HBx.out, Hl.out]; rfl)
      have hlb := (Array.getElem?_eq_some_iff.1 hb53).1
      obtain ⟨⟨bc0, bc1, bc2, bc3, bc4⟩, bf0, bf1, bf2, bf3, bf4⟩ := cells5 hb53
      have hlg := (Array.getElem?_eq_some_iff.1 hg53).1
      obtain ⟨gc0, gc1, gc2, gc3, gc4⟩ := cells5' hg53
      go_wp2_with fail
      clear hlb bc0 bc1 bc2 bc3 bc4 bf0 bf1 bf2 bf3 bf4 hlg gc0 gc1 gc2 gc3 gc4
      obtain ⟨w54, hw54⟩ : ∃ w_, set5 w53 w.heap.size (.bool g.x) (.int .i64 g.i) (.bool g.r) (.int .i64 g.n) (.slice g.a g.m g.c) = w_ := ⟨_, rfl⟩
      have hG54 : w53.grownBy w54 (some w.heap.size) := by rw [← hw54]; exact set5_grown _ _ _ _ _ _ _
      have hT54 := below_g hT53 hG54 hgeb
      have hb54 : w54.heap[w.heap.size]? = some (.cells #[.bool g.x, .int .i64 g.i, .bool g.r, .int .i64 g.n, .slice g.a g.m g.c] 34) := by rw [← hw54]; exact set5_obj hb53 _ _ _ _ _
      have hg54 := other_g hG54 hg53 Hg_b.out
      have hF54 := FIs.grow hF53 hG54 (out_not (by simp))
      have hGg54 := FIs.grow hGg53 hG54 (out_not (by simp))
      have Hsz54 := Lib.hid (show w54.heap.size = w53.heap.size by rw [← hw54]; simp [set5, World.setCell])
      unfold set5 at hw54
      rw [hw54]
      clear hw54 hG54 hT53 hb53 hg53 hF53 hGg53
      have HsB := Lib.hid (show bestTo Ns (k + 1) = G by unfold bestTo; rw [Hnew.out, if_neg (by omega), Int.toNat_natCast, show nd Ns k = N from HN.out, HG.out])
      go_round
      case measure => simp [intOf]; omega
      exact ⟨k + 1, (k : Int), g, by omega, by go_num, rfl, Lib.hid (Hnew.out), hb54, (by rw [HsB.out]; exact hGg54), hT54⟩
    obtain rfl : k = n := by omega
    have j1 : ¬ (k : Int) < (k : Int) := by omega
    obtain rfl : z = x := by rw [← Hz.out, Hx.out]
    have hlb := (Array.getElem?_eq_some_iff.1 hb50).1
    obtain ⟨bc0, bc1, bc2, bc3, bc4⟩ := cells5' hb50
    go_wp2_with fail
    clear hlb bc0 bc1 bc2 bc3 bc4
    go_ret
    exact ⟨rfl, hT50⟩
end Go.Proofs.YtcifjccojmfpaaaGreat

namespace Go.Proofs.YtcifjccojmfpaaaGreat
open Go.RowKit
set_option linter.unusedVariables false
set_option linter.unusedSimpArgs false
theorem cells1 {w : World} {F : Nat} {a : Value} {t : TypeId} (h : w.heap[F]? = some (.cells #[a] t)) : w.cell? ⟨F, 0, none⟩ = some a ∧ w.frozen? ⟨F, 0, none⟩ = false := by
  simp [World.cell?, World.frozen?, h]
theorem cells1' {w : World} {F : Nat} {a : Value} {t : TypeId} (h : w.heap[F]? = some (.cells #[a] t)) : w.cell? ⟨F, 0, none⟩ = some a := (cells1 h).1
theorem cells8 {w : World} {F : Nat} {a b c d e f g i : Value} {t : TypeId} (h : w.heap[F]? = some (.cells #[a, b, c, d, e, f, g, i] t)) :
    (w.cell? ⟨F, 0, none⟩ = some a ∧ w.cell? ⟨F, 1, none⟩ = some b ∧ w.cell? ⟨F, 2, none⟩ = some c ∧ w.cell? ⟨F, 3, none⟩ = some d ∧ w.cell? ⟨F, 4, none⟩ = some e ∧ w.cell? ⟨F, 5, none⟩ = some f ∧ w.cell? ⟨F, 6, none⟩ = some g ∧ w.cell? ⟨F, 7, none⟩ = some i) ∧
    w.frozen? ⟨F, 0, none⟩ = false ∧ w.frozen? ⟨F, 1, none⟩ = false ∧ w.frozen? ⟨F, 2, none⟩ = false ∧ w.frozen? ⟨F, 3, none⟩ = false ∧ w.frozen? ⟨F, 4, none⟩ = false ∧ w.frozen? ⟨F, 5, none⟩ = false ∧ w.frozen? ⟨F, 6, none⟩ = false ∧ w.frozen? ⟨F, 7, none⟩ = false := by
  simp [World.cell?, World.frozen?, h]
theorem cells8' {w : World} {F : Nat} {a b c d e f g i : Value} {t : TypeId} (h : w.heap[F]? = some (.cells #[a, b, c, d, e, f, g, i] t)) :
    w.cell? ⟨F, 0, none⟩ = some a ∧ w.cell? ⟨F, 1, none⟩ = some b ∧ w.cell? ⟨F, 2, none⟩ = some c ∧ w.cell? ⟨F, 3, none⟩ = some d ∧ w.cell? ⟨F, 4, none⟩ = some e ∧ w.cell? ⟨F, 5, none⟩ = some f ∧ w.cell? ⟨F, 6, none⟩ = some g ∧ w.cell? ⟨F, 7, none⟩ = some i := (cells8 h).1
def set8 (w : World) (F : Nat) (a b c d e f g i : Value) : World := ((((((((w.setCell ⟨F, 0, none⟩ a).setCell ⟨F, 1, none⟩ b).setCell ⟨F, 2, none⟩ c).setCell ⟨F, 3, none⟩ d).setCell ⟨F, 4, none⟩ e).setCell ⟨F, 5, none⟩ f).setCell ⟨F, 6, none⟩ g).setCell ⟨F, 7, none⟩ i)
theorem set8_obj {w : World} {F : Nat} {a b c d e f g i : Value} {t : TypeId} (h : w.heap[F]? = some (.cells #[a, b, c, d, e, f, g, i] t)) (a' b' c' d' e' f' g' i' : Value) :
    (set8 w F a' b' c' d' e' f' g' i').heap[F]? = some (.cells #[a', b', c', d', e', f', g', i'] t) := by
  simp [set8, World.setCell, Array.getElem?_modify, h]
theorem set8_grown (w : World) (F : Nat) (a b c d e f g i : Value) : w.grownBy (set8 w F a b c d e f g i) (some F) :=
  (((((((grown_setAt w F 0 a).trans (grown_setAt _ F 1 b)).trans (grown_setAt _ F 2 c)).trans (grown_setAt _ F 3 d)).trans (grown_setAt _ F 4 e)).trans (grown_setAt _ F 5 f)).trans (grown_setAt _ F 6 g)).trans (grown_setAt _ F 7 i)
structure TV where
  w : Int
  f : FV
  ok : Bool
  b : Int
abbrev TV.v (t : TV) : Value := .agg #[.int .i64 t.w, .bool t.f.x, .int .i64 t.f.i, .bool t.f.r, .int .i64 t.f.n, .slice t.f.a t.f.m t.f.c, .bool t.ok, .int .i64 t.b]
def TV.cs (t : TV) : List Value := [.int .i64 t.w, .bool t.f.x, .int .i64 t.f.i, .bool t.f.r, .int .i64 t.f.n, .slice t.f.a t.f.m t.f.c, .bool t.ok, .int .i64 t.b]
theorem shT : Shape TV.cs 8 := ⟨fun _ => rfl, fun v u hu => by simp only [TV.cs, List.mem_cons, List.not_mem_nil, or_false] at hu; rcases hu with rfl | rfl | rfl | rfl | rfl | rfl | rfl | rfl <;> rfl, by decide⟩
abbrev HasTo (w : World) (F : Nat) (t : TV) : Prop := w.heap[F]? = some (.cells #[.int .i64 t.w, .bool t.f.x, .int .i64 t.f.i, .bool t.f.r, .int .i64 t.f.n, .slice t.f.a t.f.m t.f.c, .bool t.ok, .int .i64 t.b] 36)
abbrev zeroTV : TV := ⟨0, zeroFV, false, 0⟩
theorem load_t {w : World} {F : Nat} {t : TV} (h : HasTo w F t) : (loadVar 36 ⟨F, 0, none⟩).run Tryz.prog w = .ok t.v w := by
  obtain ⟨⟨c0, c1, c2, c3, c4, c5, c6, c7⟩, _⟩ := cells8 h
  simp [go_sem, c0, c1, c2, c3, c4, c5, c6, c7]
theorem results_st {fn : Func} {p q : Tmp} (hf : fn.results = #[.tmp q, .cell p 36]) (tmps : Array Value) {w : World} {F : Nat} {n : TV} {u : Value} (ht : tmps.getD p undef = .pointer (some ⟨F, 0, none⟩)) (hq : tmps.getD q undef = u) (h : HasTo w F n) :
    (results fn tmps).run Tryz.prog w = .ok (.tuple #[u, n.v]) w := by
  have hl := load_t h
  have ht' : tmps[p]?.getD undef = .pointer (some ⟨F, 0, none⟩) := by simpa using ht
  have hq' : tmps[q]?.getD undef = u := by simpa using hq
  simp only [results, hf]
  simp [ht', hq', asAddr, hl]
end Go.Proofs.YtcifjccojmfpaaaGreat

namespace Go.Proofs.YtcifjccojmfpaaaGreat
open Go.RowKit
set_option linter.unusedVariables false
set_option linter.unusedSimpArgs false
theorem along_c {w : World} {P : Nat → Prop} {A : Option Addr} {n c : Nat} {Ns : List NC} (h : NSl w P A n c Ns) (hok : OkNs Ns) (hm : n ≤ 100) (i : Nat) (hi : i < n) (q : Bool) (hq : alongN Ns i = q) :
    Calls Tryz.prog 21 #[.slice A n c, .int .i64 i] w fun e w' => e = .returned (.bool q) ∧ Below w.heap.size w w' := by
  have Hok := Lib.hid hok
  have Hl := Lib.hid h.len
  unfold alongN at hq
  have hlt := winTo_lt Ns Ns.length
  have hge := winTo_ge Ns Ns.length
  obtain ⟨z, hz⟩ : ∃ z, winN Ns = z := ⟨_, rfl⟩
  rw [show winTo Ns Ns.length = z from hz, h.len] at hlt
  rw [show winTo Ns Ns.length = z from hz] at hge
  rw [hz] at hq
  have Hz := Lib.hid hz
  clear hz hok
  by_cases hz0 : z < 0
  · skip
    obtain rfl : false = q := by rw [← hq, decide_eq_false (by omega), Bool.false_and]
    have hT0 : Below w.heap.size w w := Below.refl _ _
    go_enter Tryz.func21, Tryz.ntmps21
    go_wp2_with fail
    refine (winner_c (h.to hT0) Hok.out hm z Hz.out).mono ?_
    rintro e w1 ⟨rfl, hB1⟩
    have hT1 := below_then hT0 hB1
    clear hT0   hB1
    go_wp2_with fail
    go_ret
    exact ⟨rfl, hT1⟩
  obtain ⟨a, rfl⟩ : ∃ a : Nat, z = a := ⟨z.toNat, by omega⟩
  have ha : a < n := by omega
  rw [decide_eq_true (by omega), Bool.true_and] at hq
  obtain ⟨F, hF_⟩ : ∃ F, winF Ns = F := ⟨_, rfl⟩
  rw [hF_] at hq
  have HFw := Lib.hid hF_
  clear hF_ hlt hge
  have j1 : (a : Int) < (n : Int) := by omega
  have j2 : (i : Int) < (n : Int) := by omega
  have j3 : ¬ (a : Int) < 0 := by omega
  have j4 : decide ((a : Int) < 0) = false := by simp
  clear hz0
  have hT0 : Below w.heap.size w w := Below.refl _ _
  go_enter Tryz.func21, Tryz.ntmps21
  go_wp2_with fail
  refine (winner_c (h.to hT0) Hok.out hm a Hz.out).mono ?_
  rintro e w1 ⟨rfl, hB1⟩
  have hT1 := below_then hT0 hB1
  clear hT0   hB1
  obtain ⟨ad, m, ea_, hAt1, hV1⟩ := NSl.at_ (h.to hT1) ha
  obtain ⟨N, hN_⟩ : ∃ N_, Ns.getD a zeroN = N_ := ⟨_, rfl⟩
  rw [hN_] at hV1
  have HN := Lib.hid hN_
  clear hN_
  have HokN := Lib.hid (show OkN N by rw [← HN.out]; exact Hok.out.at_ (by rw [Hl.out]; exact ha))
  subst ea_
  have HFn := Lib.hid (show nextF N = F by rw [← HFw.out, ← HN.out]; unfold winF; rw [Hz.out, Int.toNat_natCast])
  have Hha := Lib.hid (show hasN N = true by
    rcases winN_cases Ns with ⟨h1, _⟩ | ⟨b, hb, h1, h2, _⟩
    · rw [Hz.out] at h1; omega
    · have e : a = b := by have := Hz.out; omega
      rw [← HN.out, e]; exact h2)
  have ht_ := hAt1
  obtain ⟨t0, t1, t2, t3, t4, t5, t6⟩ := ht_
  go_wp2_with fail
  clear t0 t1 t2 t3 t4 t5 t6
  refine (refNext_c hV1 HokN.out true Hha.out F HFn.out).mono ?_
  rintro e w2 ⟨f, rfl, hF_, hB2⟩
  have hT2 := below_then hT1 hB2
  have hV2 := NIs.to hV1 hB2
  have hAt2 := nat_to hAt1 hB2
  clear hT1  hV1 hAt1 hB2
  have hF2 := hF_
  clear hF_
  clear hAt2
  clear hV2
  have HFo := Lib.hid (show okC F by rw [← HFn.out]; exact okC_of (next_right HokN.out Hha.out))
  go_upto_region 5 with fail
  obtain ⟨w3, hw3⟩ : ∃ w3, w2.alloc (.cells #[.bool f.x, .int .i64 f.i, .bool f.r, .int .i64 f.n, .slice f.a f.m f.c] 34) = w3 := ⟨_, rfl⟩
  have hB3 : Below w2.heap.size w2 w3 := by rw [← hw3]; exact below_alloc1 _ _
  have hfb3 : w3.heap[w2.heap.size]? = some (.cells #[.bool f.x, .int .i64 f.i, .bool f.r, .int .i64 f.n, .slice f.a f.m f.c] 34) := by rw [← hw3]; exact World.alloc_heap_new _ _
  rw [hw3]
  clear hw3
  have hT3 := below_then hT2 hB3
  have hF3 := FIs.to hF2 hB3
  clear hT2  hF2 hB3
  obtain ⟨ad2, m2, ea_, hAt3, hV3⟩ := NSl.at_ (h.to hT3) hi
  obtain ⟨N2, hN_⟩ : ∃ N_, Ns.getD i zeroN = N_ := ⟨_, rfl⟩
  rw [hN_] at hV3
  have HN2 := Lib.hid hN_
  clear hN_
  have HokN2 := Lib.hid (show OkN N2 by rw [← HN2.out]; exact Hok.out.at_ (by rw [Hl.out]; exact hi))
  obtain rfl := Option.some.inj ea_
  clear ea_
  rw [show nd Ns i = N2 from HN2.out] at hq
  have ht_ := hAt3
  obtain ⟨t0, t1, t2, t3, t4, t5, t6⟩ := ht_
  go_wp2_with fail
  clear t0 t1 t2 t3 t4 t5 t6
  obtain ⟨b, hb⟩ : ∃ q, hasN N2 = q := ⟨_, rfl⟩
  have Hb := Lib.hid hb
  clear hb
  obtain ⟨G, hG⟩ : ∃ q, nextF N2 = q := ⟨_, rfl⟩
  have HG := Lib.hid hG
  clear hG
  rw [Hb.out, HG.out] at hq
  refine (refNext_c hV3 HokN2.out b Hb.out G HG.out).mono ?_
  rintro e w4 ⟨g, rfl, hG_, hB4⟩
  have hT4 := below_then hT3 hB4
  have hfb4 := block_below hB4 hfb3
  have hF4 := FIs.to hF3 hB4
  have hV4 := NIs.to hV3 hB4
  have hAt4 := nat_to hAt3 hB4
  clear hT3 hfb3 hF3 hV3 hAt3 hB4
  have hG4 := hG_
  clear hG_
  have hlfb := (Array.getElem?_eq_some_iff.1 hfb4).1
  obtain ⟨fbc0, fbc1, fbc2, fbc3, fbc4⟩ := cells5' hfb4
  go_wp2_with fail
  clear hlfb fbc0 fbc1 fbc2 fbc3 fbc4
  clear hAt4
  clear hV4
  obtain ⟨w5, hw5⟩ : ∃ w5, w4.alloc (.cells #[.bool g.x, .int .i64 g.i, .bool g.r, .int .i64 g.n, .slice g.a g.m g.c] 34) = w5 := ⟨_, rfl⟩
  have hB5 : Below w4.heap.size w4 w5 := by rw [← hw5]; exact below_alloc1 _ _
  have hgb5 : w5.heap[w4.heap.size]? = some (.cells #[.bool g.x, .int .i64 g.i, .bool g.r, .int .i64 g.n, .slice g.a g.m g.c] 34) := by rw [← hw5]; exact World.alloc_heap_new _ _
  rw [hw5]
  clear hw5
  have hT5 := below_then hT4 hB5
  have hfb5 := block_below hB5 hfb4
  have hF5 := FIs.to hF4 hB5
  have hG5 := FIs.to hG4 hB5
  clear hT4 hfb4 hF4 hG4 hB5
  cases b
  · skip
    obtain rfl : false = q := hq
    refine wp_region_held_drew (S := fun W => True) (by kernel_rfl) (by exact trivial) (fun hHeld_ => ?_)
    refine wpAnyH_take' (i := 0) (v := ?v0_t4) 30 rfl rfl (by kernel_rfl) (by kernel_rfl) (by kernel_rfl) (fun _ _ _ h => h) (Or.inl ⟨by kernel_rfl, ?hy0_t4⟩) (by assumption) ?rest0_t4
    case hy0_t4 => (intro W_ hS_; (try dsimp only at hS_); go_simp; (try (with_reducible rfl)))
    try simp only [Act.put, siA, scZ, scS]
    refine wpAnyH_take' (i := 1) (v := ?v1_t4) 31 rfl rfl (by kernel_rfl) (by kernel_rfl) (by kernel_rfl) (fun _ _ _ h => h) (Or.inl ⟨by kernel_rfl, ?hy1_t4⟩) (by assumption) ?rest1_t4
    case hy1_t4 => (intro W_ hS_; (try dsimp only at hS_); go_simp; (try (with_reducible rfl)))
    try simp only [Act.put, siA, scZ, scS]
    refine wpAnyH_take' (i := 2) (v := undef) 32 rfl rfl (by kernel_rfl) (by kernel_rfl) (by kernel_rfl) (fun _ _ _ h => h) (Or.inr ⟨by kernel_rfl, rfl⟩) (by assumption) ?_
    try simp only [Act.put, siA, scZ, scS]
    refine wpAnyH_take' (i := 4) (v := undef) 34 rfl rfl (by kernel_rfl) (by kernel_rfl) (by kernel_rfl) (fun _ _ _ h => h) (Or.inr ⟨by kernel_rfl, rfl⟩) (by assumption) ?_
    try simp only [Act.put, siA, scZ, scS]
    refine wpAnyH_skip (i := 3) 33 rfl rfl (by kernel_rfl) (by kernel_rfl) (by assumption) ?_
    try simp only [Act.put, siA, scZ, scS]
    refine wpAnyH_skip (i := 5) 35 rfl rfl (by kernel_rfl) (by kernel_rfl) (by assumption) ?_
    try simp only [Act.put, siA, scZ, scS]
    refine wpAnyH_skip (i := 6) 36 rfl rfl (by kernel_rfl) (by kernel_rfl) (by assumption) ?_
    try simp only [Act.put, siA, scZ, scS]
    refine wpAnyH_take' (i := 7) (v := undef) 37 rfl rfl (by kernel_rfl) (by kernel_rfl) (by kernel_rfl) (fun _ _ _ h => h) (Or.inr ⟨by kernel_rfl, rfl⟩) (by assumption) ?_
    try simp only [Act.put, siA, scZ, scS]
    refine wpAnyH_take' (i := 8) (v := ?v8_t4) 38 rfl rfl (by kernel_rfl) (by kernel_rfl) (by kernel_rfl) (fun _ _ _ h => h) (Or.inl ⟨by kernel_rfl, ?hy8_t4⟩) (by assumption) ?rest8_t4
    case hy8_t4 => (intro W_ hS_; (try dsimp only at hS_); go_simp; (try (with_reducible rfl)))
    try simp only [Act.put, siA, scZ, scS]
    refine wpAnyH_take' (i := 9) (v := ?v9_t4) 39 rfl rfl (by kernel_rfl) (by kernel_rfl) (by kernel_rfl) (fun _ _ _ h => h) (Or.inl ⟨by kernel_rfl, ?hy9_t4⟩) (by assumption) ?rest9_t4
    case hy9_t4 => (intro W_ hS_; (try dsimp only at hS_); go_simp; (try (with_reducible rfl)))
    try simp only [Act.put, siA, scZ, scS]
    refine wpAnyH_take' (i := 10) (v := undef) 40 rfl rfl (by kernel_rfl) (by kernel_rfl) (by kernel_rfl) (fun _ _ _ h => h) (Or.inr ⟨by kernel_rfl, rfl⟩) (by assumption) ?_
    try simp only [Act.put, siA, scZ, scS]
    refine wpAnyH_take' (i := 12) (v := undef) 42 rfl rfl (by kernel_rfl) (by kernel_rfl) (by kernel_rfl) (fun _ _ _ h => h) (Or.inr ⟨by kernel_rfl, rfl⟩) (by assumption) ?_
    try simp only [Act.put, siA, scZ, scS]
    refine wpAnyH_skip (i := 11) 41 rfl rfl (by kernel_rfl) (by kernel_rfl) (by assumption) ?_
    try simp only [Act.put, siA, scZ, scS]
    refine wpAnyH_skip (i := 13) 43 rfl rfl (by kernel_rfl) (by kernel_rfl) (by assumption) ?_
    try simp only [Act.put, siA, scZ, scS]
    refine wpAnyH_skip (i := 14) 44 rfl rfl (by kernel_rfl) (by kernel_rfl) (by assumption) ?_
    try simp only [Act.put, siA, scZ, scS]
    refine wpAnyH_take' (i := 15) (v := undef) 45 rfl rfl (by kernel_rfl) (by kernel_rfl) (by kernel_rfl) (fun _ _ _ h => h) (Or.inr ⟨by kernel_rfl, rfl⟩) (by assumption) ?_
    try simp only [Act.put, siA, scZ, scS]
    refine wpAnyH_take' (i := 16) (v := ?v16_t4) 46 rfl rfl (by kernel_rfl) (by kernel_rfl) (by kernel_rfl) (fun _ _ _ h => h) (Or.inl ⟨by kernel_rfl, ?hy16_t4⟩) (by assumption) ?rest16_t4
    case hy16_t4 => (intro W_ hS_; (try dsimp only at hS_); go_simp; (try (with_reducible rfl)))
    try simp only [Act.put, siA, scZ, scS]
    refine wpAnyH_take' (i := 17) (v := ?v17_t4) 4 rfl rfl (by kernel_rfl) (by kernel_rfl) (by kernel_rfl) (fun _ _ _ h => h) (Or.inl ⟨by kernel_rfl, ?hy17_t4⟩) (by assumption) ?rest17_t4
    case hy17_t4 => (intro W_ hS_; (try dsimp only at hS_); go_simp; (try (with_reducible rfl)))
    try simp only [Act.put, siA, scZ, scS]
    refine wpAnyH_done (by kernel_rfl) ?_ _
    go_wp2_with fail
    go_ret
    exact ⟨rfl, below_then hT5 (below_drew1 _)⟩
  have HGo := Lib.hid (show okC G by rw [← HG.out]; exact okC_of (next_right HokN2.out Hb.out))
  rw [Bool.true_and] at hq
  obtain ⟨n1, hn1_⟩ : ∃ n_, (rankC F).length = n_ := ⟨_, rfl⟩
  have hln1 := rankC_le F
  rw [hn1_] at hln1
  have Hn1 := Lib.hid hn1_
  clear hn1_
  obtain ⟨n2, hn2_⟩ : ∃ n_, (rankC G).length = n_ := ⟨_, rfl⟩
  have hln2 := rankC_le G
  rw [hn2_] at hln2
  have Hn2 := Lib.hid hn2_
  clear hn2_
  obtain ⟨l1, hl1⟩ : ∃ q, lessC F G = q := ⟨_, rfl⟩
  have Hl1 := Lib.hid hl1
  clear hl1
  obtain ⟨l2, hl2⟩ : ∃ q, lessC G F = q := ⟨_, rfl⟩
  have Hl2 := Lib.hid hl2
  clear hl2
  rw [Hl1.out, Hl2.out] at hq
  have Hx1 := Lib.hid (show lessB (rankC F) (rankC G) = l1 by rw [less6_eq HFo.out HGo.out]; exact Hl1.out)
  have Hx2 := Lib.hid (show lessB (rankC G) (rankC F) = l2 by rw [less6_eq HGo.out HFo.out]; exact Hl2.out)
  cases l1
  rotate_left
  · skip
    obtain rfl : false = q := by rw [← hq]; rfl
    refine wp_region_held_drew (S := fun W => (W.cell? ⟨w2.heap.size, 0, none⟩ = some (.bool f.x) ∧ W.cell? ⟨w2.heap.size, 1, none⟩ = some (.int .i64 f.i) ∧ W.cell? ⟨w2.heap.size, 2, none⟩ = some (.bool f.r) ∧ W.cell? ⟨w2.heap.size, 3, none⟩ = some (.int .i64 f.n) ∧ W.cell? ⟨w2.heap.size, 4, none⟩ = some (.slice f.a f.m f.c)) ∧ (W.cell? ⟨w4.heap.size, 0, none⟩ = some (.bool g.x) ∧ W.cell? ⟨w4.heap.size, 1, none⟩ = some (.int .i64 g.i) ∧ W.cell? ⟨w4.heap.size, 2, none⟩ = some (.bool g.r) ∧ W.cell? ⟨w4.heap.size, 3, none⟩ = some (.int .i64 g.n) ∧ W.cell? ⟨w4.heap.size, 4, none⟩ = some (.slice g.a g.m g.c))) (by kernel_rfl) (by exact ⟨cells5' (block_below (below_drew1 _) hfb5), cells5' (block_below (below_drew1 _) hgb5)⟩) (fun hHeld_ => ?_)
    refine wpAnyH_take' (i := 0) (v := ?v0_t5) 30 rfl rfl (by kernel_rfl) (by kernel_rfl) (by kernel_rfl) (fun _ _ _ h => h) (Or.inl ⟨by kernel_rfl, ?hy0_t5⟩) (by assumption) ?rest0_t5
    case hy0_t5 => (intro W_ hS_; (try dsimp only at hS_); go_simp; (try (with_reducible rfl)))
    try simp only [Act.put, siA, scZ, scS]
    refine wpAnyH_take' (i := 1) (v := ?v1_t5) 31 rfl rfl (by kernel_rfl) (by kernel_rfl) (by kernel_rfl) (fun _ _ _ h => h) (Or.inl ⟨by kernel_rfl, ?hy1_t5⟩) (by assumption) ?rest1_t5
    case hy1_t5 => (intro W_ hS_; (try dsimp only at hS_); go_simp; (try (with_reducible rfl)))
    try simp only [Act.put, siA, scZ, scS]
    refine wpAnyH_take' (i := 2) (v := ?v2_t5) 32 rfl rfl (by kernel_rfl) (by kernel_rfl) (by kernel_rfl) (fun _ _ _ h => h) (Or.inl ⟨by kernel_rfl, ?hy2_t5⟩) (by assumption) ?rest2_t5
    case hy2_t5 => (intro W_ hS_; (try dsimp only at hS_); go_simp; (try (with_reducible rfl)))
    try simp only [Act.put, siA, scZ, scS]
    refine wpAnyH_take' (i := 4) (v := ?v4_t5) 34 rfl rfl (by kernel_rfl) (by kernel_rfl) (by kernel_rfl) (fun _ _ _ h => h) (Or.inl ⟨by kernel_rfl, ?hy4_t5⟩) (by assumption) ?rest4_t5
    case hy4_t5 => (intro W_ hS_; (try dsimp only at hS_); go_simp; (try (with_reducible rfl)))
    try simp only [Act.put, siA, scZ, scS]
    refine wpAnyH_ready (rs := [3]) (by kernel_rfl) (by simp) ?_
    refine AllReadyH.cons rfl (fun K_ hK_ => ?_) AllReadyH.nil
    go_simp
    refine (refRank_c (FIs.to hF5 (below_drew1 _)) HFo.out n1 Hn1.out).mono ?_; rintro e wr3 ⟨A3, c3, rfl, hr1_, hc3, hBr3⟩
    go_wp2_with fail
    refine hK_.out _ _ (by exact ⟨cells5' (block_below hBr3 (block_below (below_drew1 _) hfb5)), cells5' (block_below hBr3 (block_below (below_drew1 _) hgb5))⟩) (fun hHeld_3 => ?_)
    clear hK_
    try simp only [Act.put, siA, scZ, scS]
    refine wpAnyH_ready (rs := [5]) (by kernel_rfl) (by simp) ?_
    refine AllReadyH.cons rfl (fun K_ hK_ => ?_) AllReadyH.nil
    go_simp
    refine (refRank_c (FIs.to (FIs.to hG5 (below_drew1 _)) hBr3) HGo.out n2 Hn2.out).mono ?_; rintro e wr5 ⟨A5, c5, rfl, hr2_, hc5, hBr5⟩
    go_wp2_with fail
    refine hK_.out _ _ (by exact ⟨cells5' (block_below hBr5 (block_below hBr3 (block_below (below_drew1 _) hfb5))), cells5' (block_below hBr5 (block_below hBr3 (block_below (below_drew1 _) hgb5)))⟩) (fun hHeld_5 => ?_)
    clear hK_
    try simp only [Act.put, siA, scZ, scS]
    refine wpAnyH_ready (rs := [6]) (by kernel_rfl) (by simp) ?_
    refine AllReadyH.cons rfl (fun K_ hK_ => ?_) AllReadyH.nil
    go_simp
    refine (lessGo_any (rankC F) (rankC G) n1 n2 Hn1.out Hn2.out A3 A5 c3 c5 _ (Row.to hr1_ hBr5) hr2_ (by omega) (by omega) true Hx1.out).mono ?_; rintro e wr6 ⟨rfl, hBr6⟩
    go_wp2_with fail
    refine hK_.out _ _ (by exact ⟨cells5' (block_below hBr6 (block_below hBr5 (block_below hBr3 (block_below (below_drew1 _) hfb5)))), cells5' (block_below hBr6 (block_below hBr5 (block_below hBr3 (block_below (below_drew1 _) hgb5))))⟩) (fun hHeld_6 => ?_)
    clear hK_
    try simp only [Act.put, siA, scZ, scS]
    refine wpAnyH_take' (i := 7) (v := ?v7_t5) 37 rfl rfl (by kernel_rfl) (by kernel_rfl) (by kernel_rfl) (fun _ _ _ h => h) (Or.inl ⟨by kernel_rfl, ?hy7_t5⟩) (by assumption) ?rest7_t5
    case hy7_t5 => (intro W_ hS_; (try dsimp only at hS_); go_simp; (try (with_reducible rfl)))
    try simp only [Act.put, siA, scZ, scS]
    refine wpAnyH_take' (i := 8) (v := ?v8_t5) 38 rfl rfl (by kernel_rfl) (by kernel_rfl) (by kernel_rfl) (fun _ _ _ h => h) (Or.inl ⟨by kernel_rfl, ?hy8_t5⟩) (by assumption) ?rest8_t5
    case hy8_t5 => (intro W_ hS_; (try dsimp only at hS_); go_simp; (try (with_reducible rfl)))
    try simp only [Act.put, siA, scZ, scS]
    refine wpAnyH_take' (i := 9) (v := ?v9_t5) 39 rfl rfl (by kernel_rfl) (by kernel_rfl) (by kernel_rfl) (fun _ _ _ h => h) (Or.inl ⟨by kernel_rfl, ?hy9_t5⟩) (by assumption) ?rest9_t5
    case hy9_t5 => (intro W_ hS_; (try dsimp only at hS_); go_simp; (try (with_reducible rfl)))
    try simp only [Act.put, siA, scZ, scS]
    refine wpAnyH_take' (i := 10) (v := undef) 40 rfl rfl (by kernel_rfl) (by kernel_rfl) (by kernel_rfl) (fun _ _ _ h => h) (Or.inr ⟨by kernel_rfl, rfl⟩) (by assumption) ?_
    try simp only [Act.put, siA, scZ, scS]
    refine wpAnyH_take' (i := 12) (v := undef) 42 rfl rfl (by kernel_rfl) (by kernel_rfl) (by kernel_rfl) (fun _ _ _ h => h) (Or.inr ⟨by kernel_rfl, rfl⟩) (by assumption) ?_
    try simp only [Act.put, siA, scZ, scS]
    refine wpAnyH_skip (i := 11) 41 rfl rfl (by kernel_rfl) (by kernel_rfl) (by assumption) ?_
    try simp only [Act.put, siA, scZ, scS]
    refine wpAnyH_skip (i := 13) 43 rfl rfl (by kernel_rfl) (by kernel_rfl) (by assumption) ?_
    try simp only [Act.put, siA, scZ, scS]
    refine wpAnyH_skip (i := 14) 44 rfl rfl (by kernel_rfl) (by kernel_rfl) (by assumption) ?_
    try simp only [Act.put, siA, scZ, scS]
    refine wpAnyH_take' (i := 15) (v := undef) 45 rfl rfl (by kernel_rfl) (by kernel_rfl) (by kernel_rfl) (fun _ _ _ h => h) (Or.inr ⟨by kernel_rfl, rfl⟩) (by assumption) ?_
    try simp only [Act.put, siA, scZ, scS]
    refine wpAnyH_take' (i := 16) (v := ?v16_t5) 46 rfl rfl (by kernel_rfl) (by kernel_rfl) (by kernel_rfl) (fun _ _ _ h => h) (Or.inl ⟨by kernel_rfl, ?hy16_t5⟩) (by assumption) ?rest16_t5
    case hy16_t5 => (intro W_ hS_; (try dsimp only at hS_); go_simp; (try (with_reducible rfl)))
    try simp only [Act.put, siA, scZ, scS]
    refine wpAnyH_take' (i := 17) (v := ?v17_t5) 4 rfl rfl (by kernel_rfl) (by kernel_rfl) (by kernel_rfl) (fun _ _ _ h => h) (Or.inl ⟨by kernel_rfl, ?hy17_t5⟩) (by assumption) ?rest17_t5
    case hy17_t5 => (intro W_ hS_; (try dsimp only at hS_); go_simp; (try (with_reducible rfl)))
    try simp only [Act.put, siA, scZ, scS]
    refine wpAnyH_done (by kernel_rfl) ?_ _
    go_wp2_with fail
    go_ret
    exact ⟨rfl, below_then hT5 (below_then (below_then (below_then (below_drew1 _) hBr3) hBr5) hBr6)⟩
  obtain rfl : (!l2) = q := by rw [← hq]; rfl
  refine wp_region_held_drew (S := fun W => (W.cell? ⟨w2.heap.size, 0, none⟩ = some (.bool f.x) ∧ W.cell? ⟨w2.heap.size, 1, none⟩ = some (.int .i64 f.i) ∧ W.cell? ⟨w2.heap.size, 2, none⟩ = some (.bool f.r) ∧ W.cell? ⟨w2.heap.size, 3, none⟩ = some (.int .i64 f.n) ∧ W.cell? ⟨w2.heap.size, 4, none⟩ = some (.slice f.a f.m f.c)) ∧ (W.cell? ⟨w4.heap.size, 0, none⟩ = some (.bool g.x) ∧ W.cell? ⟨w4.heap.size, 1, none⟩ = some (.int .i64 g.i) ∧ W.cell? ⟨w4.heap.size, 2, none⟩ = some (.bool g.r) ∧ W.cell? ⟨w4.heap.size, 3, none⟩ = some (.int .i64 g.n) ∧ W.cell? ⟨w4.heap.size, 4, none⟩ = some (.slice g.a g.m g.c))) (by kernel_rfl) (by exact ⟨cells5' (block_below (below_drew1 _) hfb5), cells5' (block_below (below_drew1 _) hgb5)⟩) (fun hHeld_ => ?_)
  refine wpAnyH_take' (i := 0) (v := ?v0_t6) 30 rfl rfl (by kernel_rfl) (by kernel_rfl) (by kernel_rfl) (fun _ _ _ h => h) (Or.inl ⟨by kernel_rfl, ?hy0_t6⟩) (by assumption) ?rest0_t6
  case hy0_t6 => (intro W_ hS_; (try dsimp only at hS_); go_simp; (try (with_reducible rfl)))
  try simp only [Act.put, siA, scZ, scS]
  refine wpAnyH_take' (i := 1) (v := ?v1_t6) 31 rfl rfl (by kernel_rfl) (by kernel_rfl) (by kernel_rfl) (fun _ _ _ h => h) (Or.inl ⟨by kernel_rfl, ?hy1_t6⟩) (by assumption) ?rest1_t6
  case hy1_t6 => (intro W_ hS_; (try dsimp only at hS_); go_simp; (try (with_reducible rfl)))
  try simp only [Act.put, siA, scZ, scS]
  refine wpAnyH_take' (i := 2) (v := ?v2_t6) 32 rfl rfl (by kernel_rfl) (by kernel_rfl) (by kernel_rfl) (fun _ _ _ h => h) (Or.inl ⟨by kernel_rfl, ?hy2_t6⟩) (by assumption) ?rest2_t6
  case hy2_t6 => (intro W_ hS_; (try dsimp only at hS_); go_simp; (try (with_reducible rfl)))
  try simp only [Act.put, siA, scZ, scS]
  refine wpAnyH_take' (i := 4) (v := ?v4_t6) 34 rfl rfl (by kernel_rfl) (by kernel_rfl) (by kernel_rfl) (fun _ _ _ h => h) (Or.inl ⟨by kernel_rfl, ?hy4_t6⟩) (by assumption) ?rest4_t6
  case hy4_t6 => (intro W_ hS_; (try dsimp only at hS_); go_simp; (try (with_reducible rfl)))
  try simp only [Act.put, siA, scZ, scS]
  refine wpAnyH_ready (rs := [3]) (by kernel_rfl) (by simp) ?_
  refine AllReadyH.cons rfl (fun K_ hK_ => ?_) AllReadyH.nil
  go_simp
  refine (refRank_c (FIs.to hF5 (below_drew1 _)) HFo.out n1 Hn1.out).mono ?_; rintro e wr3 ⟨A3, c3, rfl, hr1_, hc3, hBr3⟩
  go_wp2_with fail
  refine hK_.out _ _ (by exact ⟨cells5' (block_below hBr3 (block_below (below_drew1 _) hfb5)), cells5' (block_below hBr3 (block_below (below_drew1 _) hgb5))⟩) (fun hHeld_3 => ?_)
  clear hK_
  try simp only [Act.put, siA, scZ, scS]
  refine wpAnyH_ready (rs := [5]) (by kernel_rfl) (by simp) ?_
  refine AllReadyH.cons rfl (fun K_ hK_ => ?_) AllReadyH.nil
  go_simp
  refine (refRank_c (FIs.to (FIs.to hG5 (below_drew1 _)) hBr3) HGo.out n2 Hn2.out).mono ?_; rintro e wr5 ⟨A5, c5, rfl, hr2_, hc5, hBr5⟩
  go_wp2_with fail
  refine hK_.out _ _ (by exact ⟨cells5' (block_below hBr5 (block_below hBr3 (block_below (below_drew1 _) hfb5))), cells5' (block_below hBr5 (block_below hBr3 (block_below (below_drew1 _) hgb5)))⟩) (fun hHeld_5 => ?_)
  clear hK_
  try simp only [Act.put, siA, scZ, scS]
  refine wpAnyH_ready (rs := [6]) (by kernel_rfl) (by simp) ?_
  refine AllReadyH.cons rfl (fun K_ hK_ => ?_) AllReadyH.nil
  go_simp
  refine (lessGo_any (rankC F) (rankC G) n1 n2 Hn1.out Hn2.out A3 A5 c3 c5 _ (Row.to hr1_ hBr5) hr2_ (by omega) (by omega) false Hx1.out).mono ?_; rintro e wr6 ⟨rfl, hBr6⟩
  go_wp2_with fail
  refine hK_.out _ _ (by exact ⟨cells5' (block_below hBr6 (block_below hBr5 (block_below hBr3 (block_below (below_drew1 _) hfb5)))), cells5' (block_below hBr6 (block_below hBr5 (block_below hBr3 (block_below (below_drew1 _) hgb5))))⟩) (fun hHeld_6 => ?_)
  clear hK_
  try simp only [Act.put, siA, scZ, scS]
  refine wpAnyH_take' (i := 7) (v := ?v7_t6) 37 rfl rfl (by kernel_rfl) (by kernel_rfl) (by kernel_rfl) (fun _ _ _ h => h) (Or.inl ⟨by kernel_rfl, ?hy7_t6⟩) (by assumption) ?rest7_t6
  case hy7_t6 => (intro W_ hS_; (try dsimp only at hS_); go_simp; (try (with_reducible rfl)))
  try simp only [Act.put, siA, scZ, scS]
  refine wpAnyH_take' (i := 8) (v := ?v8_t6) 38 rfl rfl (by kernel_rfl) (by kernel_rfl) (by kernel_rfl) (fun _ _ _ h => h) (Or.inl ⟨by kernel_rfl, ?hy8_t6⟩) (by assumption) ?rest8_t6
  case hy8_t6 => (intro W_ hS_; (try dsimp only at hS_); go_simp; (try (with_reducible rfl)))
  try simp only [Act.put, siA, scZ, scS]
  refine wpAnyH_take' (i := 9) (v := ?v9_t6) 39 rfl rfl (by kernel_rfl) (by kernel_rfl) (by kernel_rfl) (fun _ _ _ h => h) (Or.inl ⟨by kernel_rfl, ?hy9_t6⟩) (by assumption) ?rest9_t6
  case hy9_t6 => (intro W_ hS_; (try dsimp only at hS_); go_simp; (try (with_reducible rfl)))
  try simp only [Act.put, siA, scZ, scS]
  refine wpAnyH_take' (i := 10) (v := ?v10_t6) 40 rfl rfl (by kernel_rfl) (by kernel_rfl) (by kernel_rfl) (fun _ _ _ h => h) (Or.inl ⟨by kernel_rfl, ?hy10_t6⟩) (by assumption) ?rest10_t6
  case hy10_t6 => (intro W_ hS_; (try dsimp only at hS_); go_simp; (try (with_reducible rfl)))
  try simp only [Act.put, siA, scZ, scS]
  refine wpAnyH_take' (i := 12) (v := ?v12_t6) 42 rfl rfl (by kernel_rfl) (by kernel_rfl) (by kernel_rfl) (fun _ _ _ h => h) (Or.inl ⟨by kernel_rfl, ?hy12_t6⟩) (by assumption) ?rest12_t6
  case hy12_t6 => (intro W_ hS_; (try dsimp only at hS_); go_simp; (try (with_reducible rfl)))
  try simp only [Act.put, siA, scZ, scS]
  refine wpAnyH_ready (rs := [11]) (by kernel_rfl) (by simp) ?_
  refine AllReadyH.cons rfl (fun K_ hK_ => ?_) AllReadyH.nil
  go_simp
  refine (refRank_c (FIs.to (FIs.to (FIs.to (FIs.to hG5 (below_drew1 _)) hBr3) hBr5) hBr6) HGo.out n2 Hn2.out).mono ?_; rintro e wr11 ⟨A11, c11, rfl, hr3_, hc11, hBr11⟩
  go_wp2_with fail
  refine hK_.out _ _ (by exact ⟨cells5' (block_below hBr11 (block_below hBr6 (block_below hBr5 (block_below hBr3 (block_below (below_drew1 _) hfb5))))), cells5' (block_below hBr11 (block_below hBr6 (block_below hBr5 (block_below hBr3 (block_below (below_drew1 _) hgb5)))))⟩) (fun hHeld_11 => ?_)
  clear hK_
  try simp only [Act.put, siA, scZ, scS]
  refine wpAnyH_ready (rs := [13]) (by kernel_rfl) (by simp) ?_
  refine AllReadyH.cons rfl (fun K_ hK_ => ?_) AllReadyH.nil
  go_simp
  refine (refRank_c (FIs.to (FIs.to (FIs.to (FIs.to (FIs.to hF5 (below_drew1 _)) hBr3) hBr5) hBr6) hBr11) HFo.out n1 Hn1.out).mono ?_; rintro e wr13 ⟨A13, c13, rfl, hr4_, hc13, hBr13⟩
  go_wp2_with fail
  refine hK_.out _ _ (by exact ⟨cells5' (block_below hBr13 (block_below hBr11 (block_below hBr6 (block_below hBr5 (block_below hBr3 (block_below (below_drew1 _) hfb5)))))), cells5' (block_below hBr13 (block_below hBr11 (block_below hBr6 (block_below hBr5 (block_below hBr3 (block_below (below_drew1 _) hgb5))))))⟩) (fun hHeld_13 => ?_)
  clear hK_
  try simp only [Act.put, siA, scZ, scS]
  refine wpAnyH_ready (rs := [14]) (by kernel_rfl) (by simp) ?_
  refine AllReadyH.cons rfl (fun K_ hK_ => ?_) AllReadyH.nil
  go_simp
  refine (lessGo_any (rankC G) (rankC F) n2 n1 Hn2.out Hn1.out A11 A13 c11 c13 _ (Row.to hr3_ hBr13) hr4_ (by omega) (by omega) l2 Hx2.out).mono ?_; rintro e wr14 ⟨rfl, hBr14⟩
  go_wp2_with fail
  refine hK_.out _ _ (by exact ⟨cells5' (block_below hBr14 (block_below hBr13 (block_below hBr11 (block_below hBr6 (block_below hBr5 (block_below hBr3 (block_below (below_drew1 _) hfb5))))))), cells5' (block_below hBr14 (block_below hBr13 (block_below hBr11 (block_below hBr6 (block_below hBr5 (block_below hBr3 (block_below (below_drew1 _) hgb5)))))))⟩) (fun hHeld_14 => ?_)
  clear hK_
  try simp only [Act.put, siA, scZ, scS]
  refine wpAnyH_take' (i := 15) (v := ?v15_t6) 45 rfl rfl (by kernel_rfl) (by kernel_rfl) (by kernel_rfl) (fun _ _ _ h => h) (Or.inl ⟨by kernel_rfl, ?hy15_t6⟩) (by assumption) ?rest15_t6
  case hy15_t6 => (intro W_ hS_; (try dsimp only at hS_); go_simp; (try (with_reducible rfl)))
  try simp only [Act.put, siA, scZ, scS]
  refine wpAnyH_take' (i := 16) (v := ?v16_t6) 46 rfl rfl (by kernel_rfl) (by kernel_rfl) (by kernel_rfl) (fun _ _ _ h => h) (Or.inl ⟨by kernel_rfl, ?hy16_t6⟩) (by assumption) ?rest16_t6
  case hy16_t6 => (intro W_ hS_; (try dsimp only at hS_); go_simp; (try (with_reducible rfl)))
  try simp only [Act.put, siA, scZ, scS]
  refine wpAnyH_take' (i := 17) (v := ?v17_t6) 4 rfl rfl (by kernel_rfl) (by kernel_rfl) (by kernel_rfl) (fun _ _ _ h => h) (Or.inl ⟨by kernel_rfl, ?hy17_t6⟩) (by assumption) ?rest17_t6
  case hy17_t6 => (intro W_ hS_; (try dsimp only at hS_); go_simp; (try (with_reducible rfl)))
  try simp only [Act.put, siA, scZ, scS]
  refine wpAnyH_done (by kernel_rfl) ?_ _
  go_wp2_with fail
  go_ret
  exact ⟨rfl, below_then hT5 (below_then (below_then (below_then (below_then (below_then (below_then (below_drew1 _) hBr3) hBr5) hBr6) hBr11) hBr13) hBr14)⟩
theorem in10_c {w : World} {A : Option Addr} {n c : Nat} {H : List Int} (h : Row .i64 w w.heap.size A H) (hn : H.length = n) (hm : n ≤ 1000) (x : Int) (q : Bool) (hq : decide (x ∈ H) = q) :
    Calls Tryz.prog 22 #[.slice A n c, .int .i64 x] w fun e w' => e = .returned (.bool q) ∧ Below w.heap.size w w' := by
  have Hn := Lib.hid hn
  have Hq := Lib.hid hq
  clear hn hq
  go_enter Tryz.func22, Tryz.ntmps22
  go_wp2
  go_loopw [5] (fun i wr => ∃ k j : Nat, k ≤ n ∧ i = .int .i64 k ∧ x ∉ H.take k ∧ wr = w.drewN j) (fun i _ => n - (intOf i).toNat)
  case atStart => exact ⟨0, 0, Nat.zero_le _, rfl, by simp, rfl⟩
  case round =>
    obtain ⟨k, j, hk, rfl, hr, rfl⟩ := hrel
    have Hr := Lib.hid hr
    clear hr
    by_cases hlt : k < n
    · obtain ⟨ad, y, rfl, hx, hc⟩ := h.get_ (k := k) (by rw [Hn.out]; exact hlt)
      have Hx := Lib.hid hx
      clear hx
      by_cases hxy : y = x
      · have hd2 : (y == x) = true := by simp [hxy]
        obtain rfl : true = q := by rw [← Hq.out]; exact (decide_eq_true (by rw [← hxy]; exact List.mem_of_getElem? Hx.out)).symm
        have Hxy := Lib.hid hxy
        clear hxy
        go_wp2
        go_ret
        exact ⟨rfl, below_drewN0 _ _⟩
      · have hd2 : (y == x) = false := by simp [hxy]
        have hd3 : ¬ y = x := hxy
        go_wp2
        exact ⟨⟨k + 1, _, by omega, by go_num, by rw [List.take_add_one, Hx.out]; have := Hr.out; simp; exact ⟨this, fun e => hxy e.symm⟩, rfl⟩, by simp [intOf]; omega⟩
    · obtain rfl : k = n := by omega
      have hf : false = q := by rw [← Hq.out]; have := Hr.out; rw [List.take_of_length_le (by rw [Hn.out]; exact Nat.le_refl _)] at this; exact (decide_eq_false this).symm
      subst hf
      go_wp2
      go_ret
      exact ⟨rfl, below_drewN0 _ _⟩
end Go.Proofs.YtcifjccojmfpaaaGreat

namespace Go.Proofs.YtcifjccojmfpaaaGreat
open Go.RowKit
set_option linter.unusedVariables false
set_option linter.unusedSimpArgs false
theorem neq_fl (x : Bool) (k m : Int) (x' : Bool) (k' m' : Int) (w : World) :
    (binOp .neq 85 (.agg #[.bool x, .int .i64 k, .int .i64 m]) (.agg #[.bool x', .int .i64 k', .int .i64 m'])).run Tryz.prog w = .ok (.bool (!sameL ⟨x, k, m⟩ ⟨x', k', m'⟩)) w := by
  rw [run_neq_struct, eqIn_fl]
  rfl
theorem nc_ext {a b : NC} : a = b ↔ a.q = b.q ∧ a.l = b.l ∧ a.k = b.k ∧ a.g = b.g := by cases a; cases b; simp
theorem same9_c {w : World} {P P' : Nat → Prop} {a b : NV} {N M : NC} (h : NIs w P a N) (h' : NIs w P' b M) (q : Bool) (hq : sameN N M = q) :
    Calls Tryz.prog 34 #[a.v, b.v] w fun e w' => e = .returned (.bool q) ∧ Below w.heap.size w w' := by
  have q1 := eqIn_c
  have q2 := eq_c
  have q3 := eqIn_fl
  have q4 := neq_fl
  obtain ⟨aqa, aqm, aqc, ala, alm, alc, ak, aga, agm, agc⟩ := a
  obtain ⟨bqa, bqm, bqc, bla, blm, blc, bk, bga, bgm, bgc⟩ := b
  have hl := h.l
  have hl' := h'.l
  dsimp only at hl hl'
  have hbig := hl.big
  unfold maxLen at hbig
  have Hk := Lib.hid (show ak = N.k from h.k)
  have Hk' := Lib.hid (show bk = M.k from h'.k)
  have Hfin := Lib.hid (show sameN N M = (decide (N.l = M.l) && (sameFs N.q M.q && (sameFs N.g M.g && sameC N.k M.k))) by
    unfold sameN sameFs sameC
    rw [Bool.eq_iff_iff]
    simp only [decide_eq_true_eq, Bool.and_eq_true]
    rw [nc_ext]
    constructor
    · rintro ⟨h1, h2, h3, h4⟩; exact ⟨h2, h1, h4, h3⟩
    · rintro ⟨h1, h2, h3, h4⟩; exact ⟨h2, h1, h4, h3⟩)
  have Hq := Lib.hid hq
  clear hq
  by_cases hlen : alm = blm
  · subst hlen
    have d0 : ((alm : Int) != (alm : Int)) = false := by simp
    have d00 : (alm != alm) = false := by simp
    obtain ⟨w0, hw0⟩ : ∃ w0, ((w.alloc (.cells #[.slice aqa aqm aqc, .slice ala alm alc, .int .i64 ak.t, .int .i64 ak.r, .int .i64 ak.s, .int .i64 ak.q, .slice aga agm agc] 49)).alloc (.cells #[.slice bqa bqm bqc, .slice bla alm blc, .int .i64 bk.t, .int .i64 bk.r, .int .i64 bk.s, .int .i64 bk.q, .slice bga bgm bgc] 49)) = w0 := ⟨_, rfl⟩
    have hT0 : Below w.heap.size w w0 := by rw [← hw0]; exact below_then (below_alloc1 _ _) (below_alloc1 _ _)
    have ha0 : w0.heap[w.heap.size]? = some (.cells #[.slice aqa aqm aqc, .slice ala alm alc, .int .i64 ak.t, .int .i64 ak.r, .int .i64 ak.s, .int .i64 ak.q, .slice aga agm agc] 49) := by rw [← hw0]; exact block_below (below_alloc1 _ _) (World.alloc_heap_new _ _)
    have hb0 : w0.heap[(w.heap.size + 1)]? = some (.cells #[.slice bqa bqm bqc, .slice bla alm blc, .int .i64 bk.t, .int .i64 bk.r, .int .i64 bk.s, .int .i64 bk.q, .slice bga bgm bgc] 49) := by rw [← hw0]; exact alloc_at _ _ (by simp)
    have hs0 : w0.heap.size = w.heap.size + 2 := by rw [← hw0]; simp
    have Hs0 := Lib.hid hs0
    clear hs0
    obtain ⟨ac0, ac1, ac2, ac3, ac4, ac5, ac6⟩ := cells7' ha0
    obtain ⟨bc0, bc1, bc2, bc3, bc4, bc5, bc6⟩ := cells7' hb0
    go_enter Tryz.func34, Tryz.ntmps34
    go_wp2_with fail
    clear ac0 ac1 ac2 ac3 ac4 ac5 ac6 bc0 bc1 bc2 bc3 bc4 bc5 bc6
    clear hw0
    have hZ0 := Below.refl w0.heap.size w0
    go_loopw [5] (fun i wr => ∃ k : Nat, k ≤ alm ∧ i = .int .i64 k ∧ Hid (∀ j, j < k → N.l[j]? = M.l[j]?) ∧ wr.heap[w.heap.size]? = some (.cells #[.slice aqa aqm aqc, .slice ala alm alc, .int .i64 ak.t, .int .i64 ak.r, .int .i64 ak.s, .int .i64 ak.q, .slice aga agm agc] 49) ∧ wr.heap[(w.heap.size + 1)]? = some (.cells #[.slice bqa bqm bqc, .slice bla alm blc, .int .i64 bk.t, .int .i64 bk.r, .int .i64 bk.s, .int .i64 bk.q, .slice bga bgm bgc] 49) ∧ Below w.heap.size w wr) (fun i _ => alm - (intOf i).toNat)
    case atStart => exact ⟨0, Nat.zero_le _, rfl, Lib.hid (fun j hj => absurd hj (by omega)), ha0, hb0, hT0⟩
    case round =>
      clear ha0 hb0 hT0 hZ0
      obtain ⟨k, hk, rfl, HR0, ha50, hb50, hT50⟩ := hrel
      by_cases hlt : k < alm
      · skip
        obtain ⟨ad, f, ea, hF, a0, a1, a2⟩ := (hl.to hT50).at_ hlt
        obtain ⟨ad2, g, eb, hG, b0, b1, b2⟩ := (hl'.to hT50).at_ hlt
        subst ea eb
        have HF := Lib.hid hF
        have HG := Lib.hid hG
        clear hF hG
        have i1 : (k : Int) < (alm : Int) := by omega
        obtain ⟨fx, fk, fm⟩ := f
        obtain ⟨gx, gk, gm_⟩ := g
        dsimp only at a0 a1 a2 b0 b1 b2
        obtain ⟨r, hr⟩ : ∃ q, sameL ⟨fx, fk, fm⟩ ⟨gx, gk, gm_⟩ = q := ⟨_, rfl⟩
        have Hr := Lib.hid hr
        clear hr
        skip
        cases r
        · skip
          have r1 : sameL ⟨fx, fk, fm⟩ ⟨gx, gk, gm_⟩ = false := Hr.out
          obtain ⟨ac0, ac1, ac2, ac3, ac4, ac5, ac6⟩ := cells7' ha50
          obtain ⟨bc0, bc1, bc2, bc3, bc4, bc5, bc6⟩ := cells7' hb50
          go_wp2_with fail
          go_quiet (fail)
          go_wp2_with fail
          go_ret
          exact ⟨ret_bool (by rw [← Hq.out, Hfin.out, neq_at HF.out HG.out (by unfold sameL at r1; simpa using r1), Bool.false_and]), below_drewN' hT50 _⟩
        have r1 : sameL ⟨fx, fk, fm⟩ ⟨gx, gk, gm_⟩ = true := Hr.out
        obtain ⟨ac0, ac1, ac2, ac3, ac4, ac5, ac6⟩ := cells7' ha50
        obtain ⟨bc0, bc1, bc2, bc3, bc4, bc5, bc6⟩ := cells7' hb50
        go_wp2_with fail
        go_quiet (fail)
        go_wp2_with fail
        clear ac0 ac1 ac2 ac3 ac4 ac5 ac6 bc0 bc1 bc2 bc3 bc4 bc5 bc6
        go_round
        case measure => simp [intOf]; omega
        refine ⟨k + 1, by omega, by go_num, Lib.hid (fun j hj => ?_), ha50, hb50, below_drewN' hT50 _⟩
        by_cases hjk : j < k
        · exact HR0.out j hjk
        · obtain rfl : j = k := by omega
          rw [HF.out, HG.out]
          unfold sameL at r1
          simp only [decide_eq_true_eq] at r1
          rw [r1]
      obtain rfl : k = alm := by omega
      have i1 : ¬ (k : Int) < (k : Int) := by omega
      have hle : N.l = M.l := eq_all (hl.len.trans hl'.len.symm) (fun j hj => HR0.out j (by rw [hl.len] at hj; exact hj))
      have hq2 := Hq.out
      rw [Hfin.out, decide_eq_true hle, Bool.true_and] at hq2
      have Hq2 := Lib.hid hq2
      clear hq2 hle
      obtain ⟨r1, hr1⟩ : ∃ q, sameFs N.q M.q = q := ⟨_, rfl⟩
      have Hr1 := Lib.hid hr1
      clear hr1
      obtain ⟨r2, hr2⟩ : ∃ q, sameFs N.g M.g = q := ⟨_, rfl⟩
      have Hr2 := Lib.hid hr2
      clear hr2
      obtain ⟨r3, hr3⟩ : ∃ q, sameC N.k M.k = q := ⟨_, rfl⟩
      have Hr3 := Lib.hid hr3
      clear hr3
      have Hr4 := Lib.hid (show sameC ak bk = r3 by rw [Hk.out, Hk'.out]; exact Hr3.out)
      have hr5 : ∀ (t r s q t' r' s' q' : Int), (⟨t, r, s, q⟩ : CV) = ak → (⟨t', r', s', q'⟩ : CV) = bk → True := fun _ _ _ _ _ _ _ _ _ _ => trivial
      clear hr5
      have hq3 : q = (r1 && (r2 && r3)) := by rw [← Hq2.out, Hr1.out, Hr2.out, Hr3.out]
      subst hq3
      obtain ⟨ac0, ac1, ac2, ac3, ac4, ac5, ac6⟩ := cells7' ha50
      obtain ⟨bc0, bc1, bc2, bc3, bc4, bc5, bc6⟩ := cells7' hb50
      go_wp2_with fail
      clear ac0 ac1 ac2 ac3 ac4 ac5 ac6 bc0 bc1 bc2 bc3 bc4 bc5 bc6
      cases r1
      · skip
        refine (sameAll_c (h.q.to hT50) (h'.q.to hT50) false Hr1.out).mono ?_
        rintro e w51 ⟨rfl, hB51⟩
        have hT51 := below_then hT50 hB51
        have ha51 := block_below hB51 ha50
        have hb51 := block_below hB51 hb50
        clear hT50 ha50 hb50  hB51
        obtain ⟨ac0, ac1, ac2, ac3, ac4, ac5, ac6⟩ := cells7' ha51
        obtain ⟨bc0, bc1, bc2, bc3, bc4, bc5, bc6⟩ := cells7' hb51
        go_wp2_with fail
        go_ret
        exact ⟨rfl, hT51⟩
      refine (sameAll_c (h.q.to hT50) (h'.q.to hT50) true Hr1.out).mono ?_
      rintro e w51 ⟨rfl, hB51⟩
      have hT51 := below_then hT50 hB51
      have ha51 := block_below hB51 ha50
      have hb51 := block_below hB51 hb50
      clear hT50 ha50 hb50  hB51
      obtain ⟨ac0, ac1, ac2, ac3, ac4, ac5, ac6⟩ := cells7' ha51
      obtain ⟨bc0, bc1, bc2, bc3, bc4, bc5, bc6⟩ := cells7' hb51
      go_wp2_with fail
      clear ac0 ac1 ac2 ac3 ac4 ac5 ac6 bc0 bc1 bc2 bc3 bc4 bc5 bc6
      cases r2
      · skip
        refine (sameAll_c (h.g.to hT51) (h'.g.to hT51) false Hr2.out).mono ?_
        rintro e w52 ⟨rfl, hB52⟩
        have hT52 := below_then hT51 hB52
        have ha52 := block_below hB52 ha51
        have hb52 := block_below hB52 hb51
        clear hT51 ha51 hb51  hB52
        obtain ⟨ac0, ac1, ac2, ac3, ac4, ac5, ac6⟩ := cells7' ha52
        obtain ⟨bc0, bc1, bc2, bc3, bc4, bc5, bc6⟩ := cells7' hb52
        go_wp2_with fail
        go_ret
        exact ⟨rfl, hT52⟩
      refine (sameAll_c (h.g.to hT51) (h'.g.to hT51) true Hr2.out).mono ?_
      rintro e w52 ⟨rfl, hB52⟩
      have hT52 := below_then hT51 hB52
      have ha52 := block_below hB52 ha51
      have hb52 := block_below hB52 hb51
      clear hT51 ha51 hb51  hB52
      have r4 := Hr4.out
      clear Hk Hk' Hr4 Hr3
      obtain ⟨at_, ar_, as_, aq_⟩ := ak
      obtain ⟨bt_, br_, bs_, bq_⟩ := bk
      obtain ⟨ac0, ac1, ac2, ac3, ac4, ac5, ac6⟩ := cells7' ha52
      obtain ⟨bc0, bc1, bc2, bc3, bc4, bc5, bc6⟩ := cells7' hb52
      go_wp2_with fail
      go_ret
      exact ⟨ret_bool (by simp), hT52⟩
  · skip
    have d0 : ((alm : Int) != (blm : Int)) = true := by simp; omega
    have d00 : (alm != blm) = true := by simp; omega
    have hq2 : false = q := by
      rw [← Hq.out, Hfin.out]
      have : decide (N.l = M.l) = false := by simp only [decide_eq_false_iff_not]; intro e; rw [e] at hl; exact hlen (hl.len.symm.trans hl'.len)
      rw [this]; rfl
    subst hq2
    obtain ⟨w0, hw0⟩ : ∃ w0, ((w.alloc (.cells #[.slice aqa aqm aqc, .slice ala alm alc, .int .i64 ak.t, .int .i64 ak.r, .int .i64 ak.s, .int .i64 ak.q, .slice aga agm agc] 49)).alloc (.cells #[.slice bqa bqm bqc, .slice bla blm blc, .int .i64 bk.t, .int .i64 bk.r, .int .i64 bk.s, .int .i64 bk.q, .slice bga bgm bgc] 49)) = w0 := ⟨_, rfl⟩
    have hT0 : Below w.heap.size w w0 := by rw [← hw0]; exact below_then (below_alloc1 _ _) (below_alloc1 _ _)
    have ha0 : w0.heap[w.heap.size]? = some (.cells #[.slice aqa aqm aqc, .slice ala alm alc, .int .i64 ak.t, .int .i64 ak.r, .int .i64 ak.s, .int .i64 ak.q, .slice aga agm agc] 49) := by rw [← hw0]; exact block_below (below_alloc1 _ _) (World.alloc_heap_new _ _)
    have hb0 : w0.heap[(w.heap.size + 1)]? = some (.cells #[.slice bqa bqm bqc, .slice bla blm blc, .int .i64 bk.t, .int .i64 bk.r, .int .i64 bk.s, .int .i64 bk.q, .slice bga bgm bgc] 49) := by rw [← hw0]; exact alloc_at _ _ (by simp)
    have hs0 : w0.heap.size = w.heap.size + 2 := by rw [← hw0]; simp
    have Hs0 := Lib.hid hs0
    clear hs0
    obtain ⟨ac0, ac1, ac2, ac3, ac4, ac5, ac6⟩ := cells7' ha0
    obtain ⟨bc0, bc1, bc2, bc3, bc4, bc5, bc6⟩ := cells7' hb0
    go_enter Tryz.func34, Tryz.ntmps34
    go_wp2_with fail
    clear ac0 ac1 ac2 ac3 ac4 ac5 ac6 bc0 bc1 bc2 bc3 bc4 bc5 bc6
    clear hw0
    have hZ0 := Below.refl w0.heap.size w0
    go_ret
    exact ⟨rfl, hT0⟩
end Go.Proofs.YtcifjccojmfpaaaGreat

namespace Go.Proofs.YtcifjccojmfpaaaGreat
open Go Go.RowKit
set_option linter.unusedVariables false
def Off (P : Nat → Prop) (L : List Nat) : Nat → Prop := fun b => P b ∧ Out L b
def PLo (P : Nat → Prop) (s : Nat) : Nat → Prop := fun b => P b ∧ b < s
theorem plo_up {s : Nat} {P : Nat → Prop} : ∀ b, b < s → P b → PLo P s b := fun b hb h => ⟨h, hb⟩
theorem plo_not {s X : Nat} {P : Nat → Prop} (h : s ≤ X) : ¬ PLo P s X := fun e => absurd e.2 (Nat.not_lt.2 h)
theorem off_base {P : Nat → Prop} {L : List Nat} {s : Nat} : ∀ b, b < s → Off P L b → P b := fun b _ h => h.1
theorem off_not {P : Nat → Prop} {L : List Nat} {X : Nat} (h : X ∈ L) : ¬ Off P L X := fun e => e.2 X h rfl
theorem off_up {P : Nat → Prop} {w : World} {s base : Nat} {A : Option Addr} {n c : Nat} {V : Type} {cs : V → List Value} {sz : Nat} {ty : TypeId} {vs : List V} (h : GOwn cs sz ty w base A n c vs) {L : List Nat} (hL : ∀ Y ∈ L, Y < w.heap.size) (hP : ∀ b, s ≤ b → P b) (hs : s ≤ w.heap.size) : ∀ b, w.heap.size ≤ b → Off P (L ++ ownL A) b :=
  fun b hb => ⟨hP b (Nat.le_trans hs hb), out_up (fun Y hY => by rcases List.mem_append.1 hY with h' | h'; exact hL Y h'; exact gown_lt h Y h') b hb⟩
theorem beside_off {w w' : World} {Rp : World → (Nat → Prop) → Prop} {P : Nat → Prop} {L : List Nat} {A A' : Option Addr} {n c : Nat}
    (mono : ∀ (w : World) (P Q : Nat → Prop), Rp w P → (∀ b, b < w.heap.size → P b → Q b) → Rp w Q)
    (mv : ∀ (w w' : World) (P : Nat → Prop), Rp w P → Below w.heap.size w w' → Rp w' P)
    (grow : ∀ (w w' : World) (P : Nat → Prop) (X : Nat), Rp w P → w.grownBy w' (some X) → ¬ P X → Rp w' P)
    (h : Rp w (Off P (L ++ ownL A))) (g : w.grownBy w' (Value.slice A n c).ownBlock) (e : ownL A' = ownL A ∨ ownL A' = [w.heap.size]) : Rp w' (Off P (L ++ ownL A')) := by
  have h1 : Rp w (Off P (L ++ (ownL A ++ ownL A'))) := mono _ _ _ h (fun b hb hp => ⟨hp.1, by
    intro Y hY
    rcases List.mem_append.1 hY with hY | hY
    · exact hp.2 Y (by simp [hY])
    · rcases List.mem_append.1 hY with h' | h'
      · exact hp.2 Y (by simp [h'])
      · rcases e with e | e
        · rw [e] at h'; exact hp.2 Y (by simp [h'])
        · rw [e] at h'; simp at h'; omega⟩)
  have h2 : Rp w' (Off P (L ++ (ownL A ++ ownL A'))) := by
    cases A with
    | none => exact mv _ _ _ h1 ((Below.refl _ _).grown g (Nat.le_refl _) (fun k hk => by cases hk))
    | some a => exact grow _ _ _ a.block h1 g (off_not (by simp [ownL]))
  exact mono _ _ _ h2 (fun b _ hp => ⟨hp.1, fun Y hY => hp.2 Y (by rcases List.mem_append.1 hY with hY | hY <;> simp [hY])⟩)
abbrev NsIs (w : World) (P : Nat → Prop) (ns : List NV) (Ns : List NC) : Prop := AllIs (NIs w P) ns Ns
theorem NsIs.to {w w' : World} {P : Nat → Prop} {ns : List NV} {Ns : List NC} (h : NsIs w P ns Ns) (b : Below w.heap.size w w') : NsIs w' P ns Ns := h.imp fun _ _ h => h.to b
theorem NsIs.grow {w w' : World} {P : Nat → Prop} {ns : List NV} {Ns : List NC} {X : Nat} (h : NsIs w P ns Ns) (g : w.grownBy w' (some X)) (hX : ¬ P X) : NsIs w' P ns Ns := h.imp fun _ _ h => h.grow g hX
theorem NsIs.mono {w : World} {P Q : Nat → Prop} {ns : List NV} {Ns : List NC} (h : NsIs w P ns Ns) (hq : ∀ b, b < w.heap.size → P b → Q b) : NsIs w Q ns Ns := h.imp fun _ _ h => h.mono hq
theorem nsis_off {w w' : World} {P : Nat → Prop} {L : List Nat} {A A' : Option Addr} {n c : Nat} {ns : List NV} {Ns : List NC} (h : NsIs w (Off P (L ++ ownL A)) ns Ns) (g : w.grownBy w' (Value.slice A n c).ownBlock) (e : ownL A' = ownL A ∨ ownL A' = [w.heap.size]) : NsIs w' (Off P (L ++ ownL A')) ns Ns :=
  beside_off (Rp := fun w P => NsIs w P ns Ns) (fun _ _ _ h hq => h.mono hq) (fun _ _ _ h b => h.to b) (fun _ _ _ _ h g hX => h.grow g hX) h g e
theorem nis_off {w w' : World} {P : Nat → Prop} {L : List Nat} {A A' : Option Addr} {n c : Nat} {m : NV} {N : NC} (h : NIs w (Off P (L ++ ownL A)) m N) (g : w.grownBy w' (Value.slice A n c).ownBlock) (e : ownL A' = ownL A ∨ ownL A' = [w.heap.size]) : NIs w' (Off P (L ++ ownL A')) m N :=
  beside_off (Rp := fun w P => NIs w P m N) (fun _ _ _ h hq => h.mono hq) (fun _ _ _ h b => h.to b) (fun _ _ _ _ h g hX => h.grow g hX) h g e
end Go.Proofs.YtcifjccojmfpaaaGreat

namespace Go.Proofs.YtcifjccojmfpaaaGreat
open Go.RowKit
set_option linter.unusedVariables false
set_option linter.unusedSimpArgs false
def tick (s : Int × Nat) (x : Int) : Int × Nat := (x, if x = s.1 then s.2 + 1 else 1)
def runOf (l : List Int) : Int × Nat := l.foldl tick (0, 0)
theorem runOf_snoc (l : List Int) (x : Int) : runOf (l ++ [x]) = tick (runOf l) x := by simp [runOf]
theorem tick_same (s : Int × Nat) : tick s s.1 = (s.1, s.2 + 1) := by simp [tick]
theorem tick_other {s : Int × Nat} {x : Int} (h : x ≠ s.1) : tick s x = (x, 1) := by simp [tick, h]
theorem tick_pos (s : Int × Nat) (x : Int) : 1 ≤ (tick s x).2 := by unfold tick; split <;> simp
theorem tick_le (s : Int × Nat) (x : Int) : (tick s x).2 ≤ s.2 + 1 := by unfold tick; split <;> simp
theorem tick_fst (s : Int × Nat) (x : Int) : (tick s x).1 = x := rfl
theorem tick_opp (s : Int × Nat) (x : Int) : tick (tick s x) (1 - x) = (1 - x, 1) := tick_other (by simp [tick]; omega)
def stuffF : Int × Nat → List Int → List Int
  | _, [] => []
  | s, x :: l => if (tick s x).2 = 5 then x :: (1 - x) :: stuffF (1 - x, 1) l else x :: stuffF (tick s x) l
def stuffL (l : List Int) : List Int := stuffF (0, 0) l
def stuffS : Int × Nat → List Int → Int × Nat
  | s, [] => s
  | s, x :: l => if (tick s x).2 = 5 then stuffS (1 - x, 1) l else stuffS (tick s x) l
theorem stuffF_append : ∀ (a b : List Int) (s : Int × Nat), stuffF s (a ++ b) = stuffF s a ++ stuffF (stuffS s a) b
  | [], b, s => by simp [stuffF, stuffS]
  | x :: a, b, s => by
    simp only [List.cons_append, stuffF, stuffS]
    split
    · simp [stuffF_append a b]
    · simp [stuffF_append a b]
theorem stuffS_append : ∀ (a b : List Int) (s : Int × Nat), stuffS s (a ++ b) = stuffS (stuffS s a) b
  | [], b, s => by simp [stuffS]
  | x :: a, b, s => by
    simp only [List.cons_append, stuffS]
    split <;> exact stuffS_append a b _
theorem stuffS_le : ∀ (l : List Int) (s : Int × Nat), s.2 ≤ 4 → (stuffS s l).2 ≤ 4
  | [], s, h => h
  | x :: l, s, h => by
    simp only [stuffS]
    have := tick_le s x
    split
    · exact stuffS_le l _ (by simp)
    · exact stuffS_le l _ (by omega)
theorem stuffS_run : ∀ (l : List Int) (s : Int × Nat), (stuffF s l).foldl tick s = stuffS s l
  | [], s => rfl
  | x :: l, s => by
    simp only [stuffF, stuffS]
    split
    · rw [List.foldl_cons, List.foldl_cons, tick_opp]; exact stuffS_run l _
    · rw [List.foldl_cons]; exact stuffS_run l _
theorem runOf_stuff (l : List Int) : runOf (stuffL l) = stuffS (0, 0) l := stuffS_run l _
def stripF : Int × Nat → List Int → List Int × Option Nat
  | s, [] => ([], if s.2 = 5 then some 0 else none)
  | s, x :: l => if 5 < (tick s x).2 then ([], some 0) else ((if s.2 < 5 then x :: (stripF (tick s x) l).1 else (stripF (tick s x) l).1), (stripF (tick s x) l).2.map (· + 1))
def placeI : Option Nat → Int
  | some p => p
  | none => -1
def runsF : Int × Nat → List Int → Nat
  | _, [] => 0
  | s, x :: l => max (tick s x).2 (runsF (tick s x) l)
def runsL (l : List Int) : Nat := runsF (0, 0) l
theorem stuffF_len : ∀ (l : List Int) (s : Int × Nat), s.2 ≤ 4 → l.length ≤ (stuffF s l).length ∧ 4 * ((stuffF s l).length - l.length) ≤ s.2 + l.length - 1
  | [], s, h => by simp [stuffF]
  | x :: l, s, h => by
    have h1 := tick_le s x
    have h0 := tick_pos s x
    simp only [stuffF]
    split
    · have := stuffF_len l (1 - x, 1) (by simp)
      simp only [List.length_cons] at *
      omega
    · have := stuffF_len l (tick s x) (by omega)
      simp only [List.length_cons] at *
      omega
theorem stuffL_len (l : List Int) : l.length ≤ (stuffL l).length ∧ 4 * ((stuffL l).length - l.length) ≤ l.length - 1 := by
  have := stuffF_len l (0, 0) (by simp)
  simp only [Nat.zero_add] at this
  exact this
def fiveB (l : List Int) : Bool := decide (5 ≤ (runOf l).2)
theorem runOf_last {l : List Int} (h : 0 < l.length) : l[l.length - 1]? = some (runOf l).1 := by
  rcases snoc_cases l with rfl | ⟨l', x, rfl⟩
  · simp at h
  · simp [runOf_snoc, tick_fst]
def turned (l : List Int) : List Int := l.map (1 - ·)
def Opp (s t : Int × Nat) : Prop := s.2 = t.2 ∧ (s.2 = 0 ∨ t.1 = 1 - s.1)
theorem Opp.tick {s t : Int × Nat} (h : Opp s t) (x : Int) : Opp (tick s x) (tick t (1 - x)) := by
  obtain ⟨h1, h2⟩ := h
  refine ⟨?_, .inr rfl⟩
  rcases h2 with h2 | h2
  · have e : t.2 = 0 := by omega
    simp [Go.Proofs.YtcifjccojmfpaaaGreat.tick, h2, e]
  · unfold Go.Proofs.YtcifjccojmfpaaaGreat.tick
    simp only
    by_cases e : x = s.1
    · rw [if_pos e, if_pos (by omega)]; omega
    · rw [if_neg e, if_neg (by omega)]
def endsF : Int × Nat → List Int → List Nat
  | _, [] => []
  | s, [x] => [(tick s x).2]
  | s, x :: y :: l => if y = x then endsF (tick s x) (y :: l) else (tick s x).2 :: endsF (tick s x) (y :: l)
def worstAt (i : Nat) : Int := (((i - 1) / 4 + 1) % 2 : Nat)
def worstL (n : Nat) : List Int := (List.range n).map worstAt
open Go.RowKit Go.Shelf
attribute [local go_sem] Oper.semAt_some
def Run2 (W : World) (B : Nat) (s : Int × Nat) : Prop := Boxed W B 3 (.int .i64 s.1) ∧ Boxed W (B + 1) 3 (.int .i64 s.2)
structure Only (B : Nat) (W W' : World) : Prop where
  size : W'.heap.size = W.heap.size
  below : Below B W W'
  block : ∀ k, k ≠ B → k ≠ B + 1 → W'.heap[k]? = W.heap[k]?
theorem Only.trans {B : Nat} {A W W' : World} (h : Only B A W) (k : Only B W W') : Only B A W' := ⟨k.size.trans h.size, h.below.trans k.below, fun i a b => (k.block i a b).trans (h.block i a b)⟩
theorem Only.set0 {B : Nat} (W : World) (v : Value) : Only B W (W.setCell ⟨B, 0, none⟩ v) := ⟨by simp [World.setCell], (Below.refl B W).setCell (p := ⟨B, 0, none⟩) (Nat.le_refl _) v, fun k h _ => Below.heap_setCell _ _ _ _ (by simpa using h)⟩
theorem Only.set1 {B : Nat} (W : World) (v : Value) : Only B W (W.setCell ⟨B + 1, 0, none⟩ v) := ⟨by simp [World.setCell], (Below.refl B W).setCell (p := ⟨B + 1, 0, none⟩) (Nat.le_succ _) v, fun k _ h => Below.heap_setCell _ _ _ _ (by simpa using h)⟩
theorem Only.own {B : Nat} {W W' : World} (h : Only B W W') {base : Nat} {e : TypeId} {size g k cap : Nat} {xs : List Value} (hr : W.ownsRow base e size (.slice (some ⟨g, 0, none⟩) k cap) k xs) (h0 : g ≠ B) (h1 : g ≠ B + 1) : W'.ownsRow base e size (.slice (some ⟨g, 0, none⟩) k cap) k xs := by
  refine ⟨hr.1, ?_⟩
  rcases hr.2 with ⟨e1, _⟩ | ⟨g', cap', cur, hv, hb, hg, hrest⟩
  · cases e1
  · have e2 : g = g' := by cases hv; rfl
    exact .inr ⟨g', cap', cur, hv, hb, (h.block g' (by omega) (by omega)).trans hg, hrest⟩
theorem follow_in (F : Fence) (n : Nat) (hf : F.fn 129) (hro : F.round = none) (w : World) :
    CallsIn F n Tryz.prog 129 #[] w fun e w' => e = .returned (.func (.func 142) #[] #[.pointer (some ⟨w.heap.size, 0, none⟩), .pointer (some ⟨w.heap.size + 1, 0, none⟩)]) ∧ Run2 w' w.heap.size (0, 0) ∧ Below w.heap.size w w' ∧ w'.heap.size = w.heap.size + 2 := by
  refine callsIn_of_wp Tryz.func129 rfl hf ?_ hro
  simp only [Tryz.ntmps129, List.size_toArray, List.length_nil, Nat.reduceSub, Array.replicate_succ, Array.replicate_zero, List.push_toArray, List.append_toArray, List.nil_append, List.cons_append]
  gi_wp2
  go_ret
  have b0 := Boxed.new w 3 (.int .i64 0)
  have b1 := Boxed.new (w.alloc (.cells #[.int .i64 0] 3)) 3 (.int .i64 0)
  simp only [World.size_alloc] at b1
  refine ⟨rfl, ⟨?_, ?_⟩, ?_, ?_⟩
  · first | exact b0.alloc _ | exact ((b0.alloc _).set _).other (by omega) _
  · first | exact b1 | exact (b1.other (by omega) _).set _
  · first | exact ((Below.refl _ _).alloc (Nat.le_refl _) _).alloc (by simp) _ | exact ((((Below.refl _ _).alloc (Nat.le_refl _) _).alloc (by simp) _).setCell (Nat.le_refl _) _).setCell (by simp) _
  · simp
theorem follow1_in (F : Fence) (n : Nat) (hf : F.fn 142) (hro : F.round = none) (W : World) (B : Nat) (s : Int × Nat) (x : Int) (h : Run2 W B s) (hs : s.2 < 4611686018427387904) :
    CallsIn F n Tryz.prog 142 #[.int .i64 x, .pointer (some ⟨B, 0, none⟩), .pointer (some ⟨B + 1, 0, none⟩)] W fun e w' => e = .returned (.int .i64 (tick s x).2) ∧ Run2 w' B (tick s x) ∧ Only B W w' := by
  obtain ⟨v, m⟩ := s
  obtain ⟨h0, h1⟩ := h
  simp only at h0 h1 hs
  have c0 := h0.cell
  have c1 := h1.cell
  have f0 := h0.frozen
  have f1 := h1.frozen
  by_cases e : x = v
  · subst e
    have ht : tick (x, m) x = (x, m + 1) := tick_same (x, m)
    have HT := Lib.hid ht
    clear ht
    have hw := h1.set (.int .i64 ((m : Int) + 1))
    have cw := hw.cell
    refine callsIn_of_wp Tryz.func142 rfl hf ?_ hro
    simp only [Tryz.ntmps142, List.size_toArray, List.length_cons, List.length_nil, Nat.reduceAdd, Nat.reduceSub, Array.replicate_succ, Array.replicate_zero, List.push_toArray, List.append_toArray, List.nil_append, List.cons_append]
    gi_wp2
    go_ret
    rw [HT.out]
    exact ⟨by simp, ⟨h0.other (by omega) _, by simpa using hw⟩, Only.set1 _ _⟩
  · have ht : tick (v, m) x = (x, 1) := tick_other e
    have HT := Lib.hid ht
    clear ht
    have d1 : (x != v) = true := by simp [e]
    have a0 := h0.set (.int .i64 x)
    have a1 := h1.other (show B + 1 ≠ B by omega) (.int .i64 x)
    have b0 := a0.other (show B ≠ B + 1 by omega) (.int .i64 0)
    have b1 := a1.set (.int .i64 0)
    have z0 := b0.other (show B ≠ B + 1 by omega) (.int .i64 1)
    have z1 := b1.set (.int .i64 1)
    have ca1 := a1.cell
    have fa1 := a1.frozen
    have cb1 := b1.cell
    have fb1 := b1.frozen
    have cz1 := z1.cell
    have A0 := Lib.hid a0
    have Z0 := Lib.hid z0
    have Z1 := Lib.hid z1
    clear a0 b0 z0 a1 b1 z1 h0 h1
    refine callsIn_of_wp Tryz.func142 rfl hf ?_ hro
    simp only [Tryz.ntmps142, List.size_toArray, List.length_cons, List.length_nil, Nat.reduceAdd, Nat.reduceSub, Array.replicate_succ, Array.replicate_zero, List.push_toArray, List.append_toArray, List.nil_append, List.cons_append]
    gi_wp2
    go_ret
    rw [HT.out]
    exact ⟨rfl, ⟨Z0.out, Z1.out⟩, ((Only.set0 _ _).trans (Only.set1 _ _)).trans (Only.set1 _ _)⟩
theorem follow_any (w : World) :
    Calls Tryz.prog 129 #[] w fun e w' => e = .returned (.func (.func 142) #[] #[.pointer (some ⟨w.heap.size, 0, none⟩), .pointer (some ⟨w.heap.size + 1, 0, none⟩)]) ∧ Run2 w' w.heap.size (0, 0) ∧ Below w.heap.size w w' ∧ w'.heap.size = w.heap.size + 2 :=
  callsIn_wide.1 (follow_in Fence.wide 3 trivial rfl w)
theorem follow1_any (W : World) (B : Nat) (s : Int × Nat) (x : Int) (h : Run2 W B s) (hs : s.2 < 4611686018427387904) :
    Calls Tryz.prog 142 #[.int .i64 x, .pointer (some ⟨B, 0, none⟩), .pointer (some ⟨B + 1, 0, none⟩)] W fun e w' => e = .returned (.int .i64 (tick s x).2) ∧ Run2 w' B (tick s x) ∧ Only B W w' :=
  callsIn_wide.1 (follow1_in Fence.wide 3 trivial rfl W B s x h hs)
theorem follow1_at {W : World} {B : Nat} {s : Int × Nat} (x : Int) (m : Nat) (hm : tick s x = (x, m)) (h : Run2 W B s) (hs : s.2 < 4611686018427387904) :
    Calls Tryz.prog 142 #[.int .i64 x, .pointer (some ⟨B, 0, none⟩), .pointer (some ⟨B + 1, 0, none⟩)] W fun e w' => e = .returned (.int .i64 m) ∧ Run2 w' B (x, m) ∧ Only B W w' := by
  have := follow1_any W B s x h hs
  rw [hm] at this
  exact this
theorem opposite_any (x : Int) (hx : x = 0 ∨ x = 1) (W : World) :
    Calls Tryz.prog 130 #[.int .i64 x] W fun e w' => e = .returned (.int .i64 (1 - x)) ∧ W = w' := by
  rcases hx with rfl | rfl
  all_goals
    go_enter Tryz.func130, Tryz.ntmps130
    go_wp2
    go_ret
    exact ⟨rfl, rfl⟩
theorem Run2.fits {W w1 : World} {B g : Nat} {s : Int × Nat} {o : Obj} (h : Run2 W B s) (hg : (W.alloc o).grownBy w1 (some g)) (h0 : g ≠ B) (h1 : g ≠ B + 1) : Run2 w1 B s :=
  ⟨(h.1.alloc o).kept hg (fun e => h0 (by cases e; rfl)), (h.2.alloc o).kept hg (fun e => h1 (by cases e; rfl))⟩
theorem below_fits {W w1 : World} {n g : Nat} {o : Obj} (hg : (W.alloc o).grownBy w1 (some g)) (hn : n ≤ W.heap.size) (h : n ≤ g) : Below n W w1 :=
  ((Below.refl n W).alloc hn o).grown hg (by simp; omega) (fun k e => by cases e; exact h)
theorem stuffF_snoc {l : List Int} {k : Nat} {x : Int} (hx : l[k]? = some x) (s : Int × Nat) : stuffF s (l.take (k + 1)) = stuffF s (l.take k) ++ stuffF (stuffS s (l.take k)) [x] := by rw [take_snoc hx, stuffF_append]
theorem stuffS_snoc {l : List Int} {k : Nat} {x : Int} (hx : l[k]? = some x) (s : Int × Nat) : stuffS s (l.take (k + 1)) = stuffS (stuffS s (l.take k)) [x] := by rw [take_snoc hx, stuffS_append]
theorem stuffL_take_len (l : List Int) (k : Nat) (hk : k ≤ l.length) : (stuffL (l.take k)).length ≤ k + k / 4 := by
  have := stuffL_len (l.take k)
  rw [List.length_take, Nat.min_eq_left hk] at this
  omega
theorem stuff_any (l : List Int) (A : Option Addr) (c : Nat) (w : World) (h : Row .i64 w w.heap.size A l) (hr : rightB l = true) (hm : l.length ≤ 100000) :
    Calls Tryz.prog 114 #[.slice A l.length c] w fun e w' => ∃ cap, e = .returned (.slice (some ⟨w.heap.size, 0, none⟩) (stuffL l).length cap) ∧
      w'.ownsRow w.heap.size 3 1 (.slice (some ⟨w.heap.size, 0, none⟩) (stuffL l).length cap) (stuffL l).length ((stuffL l).map (Value.int .i64)) ∧ Below w.heap.size w w' := by
  obtain ⟨i0, hi, hz0, hz1, hz2⟩ := info_parts Tryz.infoInt
  have HR := Lib.hid hr
  clear hr
  go_enter Tryz.func114, Tryz.ntmps114
  go_wp2_with (first
    | (at_make; refine wpList_make_own _ rfl _ _ 39 rfl w.heap.size 3 i0 (.int .i64 0) 1 Tryz.underlying39 hi hz0 hz1 _ _ _ (l.length + l.length / 4) rfl rfl (by go_num) (by rw [hz2]; omega) (by unfold maxLen; omega) (Nat.le_refl _) ?_; intro w0 hown0 hgrow0)
    | (go_at_call 129; refine (follow_any _).mono ?_; rintro e w1 ⟨rfl, hrun, hB1, hz⟩))
  have hg0 := (hown0.lt w.heap.size rfl).2
  have hB0 : Below w.heap.size w w1 := ((Below.refl _ _).grown hgrow0 (Nat.le_refl _) (fun k h => by cases h)).trans (hB1.mono hgrow0.size)
  have hown1 := own_to hown0 hB1
  clear hB1 hgrow0 hown0
  go_loopw [3, 18] (fun o i wr => ∃ (k m : Nat), k ≤ l.length ∧ i = .int .i64 k ∧ (stuffL (l.take k)).length = m ∧ o = .slice (some ⟨w.heap.size, 0, none⟩) m (l.length + l.length / 4) ∧
      wr.ownsRow w.heap.size 3 1 (.slice (some ⟨w.heap.size, 0, none⟩) m (l.length + l.length / 4)) m ((stuffL (l.take k)).map (Value.int .i64)) ∧ Run2 wr w0.heap.size (stuffS (0, 0) (l.take k)) ∧ Below w.heap.size w wr)
    (fun _ i _ => l.length - (intOf i).toNat)
  case atStart => exact ⟨0, 0, Nat.zero_le _, rfl, rfl, rfl, hown1, hrun, hB0⟩
  case round =>
    clear hown1 hrun hB0 hz
    obtain ⟨k, m, hk, rfl, hml, rfl, hown, hrun, hB⟩ := hrel
    have hsz := hB.size
    by_cases hlt : k < l.length
    · obtain ⟨ad, x, rfl, hx, hc⟩ := (h.below hB).get_ hlt
      have hb := rightB_at HR.out hx
      have hfit : m ≤ k + k / 4 := by rw [← hml]; exact stuffL_take_len l k hk
      have hfit2 : (stuffL (l.take (k + 1))).length ≤ k + 1 + (k + 1) / 4 := stuffL_take_len l (k + 1) (by omega)
      have hs4 := stuffS_le (l.take k) (0, 0) (by simp)
      have e1 := stuffF_snoc hx (0, 0)
      have e2 := stuffS_snoc hx (0, 0)
      obtain ⟨s, hs⟩ : ∃ s, stuffS (0, 0) (l.take k) = s := ⟨_, rfl⟩
      rw [hs] at e1 e2 hs4 hrun
      clear hs
      have hs62 : s.2 < 4611686018427387904 := by omega
      obtain ⟨q, hq⟩ : ∃ q, tick s x = (x, q) := ⟨_, rfl⟩
      have HB := Lib.hid hb
      have Hq := Lib.hid hq
      have Hml := Lib.hid hml
      clear hb hml
      by_cases h5 : q = 5
      · subst h5
        have e1' : stuffL (l.take (k + 1)) = stuffL (l.take k) ++ [x, 1 - x] := by
          show stuffF _ _ = stuffF _ _ ++ _
          rw [e1]; simp [stuffF, hq]
        have e2' : stuffS (0, 0) (l.take (k + 1)) = (1 - x, 1) := by rw [e2]; simp [stuffS, hq]
        have l2 : (stuffL (l.take (k + 1))).length = m + 1 + 1 := by rw [e1', List.length_append, Hml.out]; rfl
        rw [l2] at hfit2
        have ht2 : tick (x, 5) (1 - x) = (1 - x, 1) := tick_other (by simp; omega)
        have Ht2 := Lib.hid ht2
        have E1 := Lib.hid e1'
        have E2 := Lib.hid e2'
        have L2 := Lib.hid l2
        clear hx e1 e2 e1' e2' hq l2 ht2
        go_wp2_with (first
          | (at_builtin; have hq_ := hown3; clear hq_; refine wpList_append_fits _ rfl _ _ 39 rfl w.heap.size 3 i0 1 Tryz.underlying39 hi hz1 w.heap.size (m + 1) (l.length + l.length / 4) _ rfl (hown3.alloc _) ⟨w3.heap.size, 0, none⟩ 1 1 [.int .i64 (1 - x)] rfl rfl (cell_one_new _ _ _) (by simp [Value.oneCell']) (by omega) ?_; intro w4 hown4 hgrow4; have hrun4 := hrun3.fits hgrow4 (by omega) (by omega))
          | (at_builtin; refine wpList_append_fits _ rfl _ _ 39 rfl w.heap.size 3 i0 1 Tryz.underlying39 hi hz1 w.heap.size m (l.length + l.length / 4) _ rfl (hown.alloc _) ⟨wr.heap.size, 0, none⟩ 1 1 [.int .i64 x] rfl rfl (cell_one_new _ _ _) (by simp [Value.oneCell']) (by omega) ?_; intro w2 hown2 hgrow2; have hrun2 := hrun.fits hgrow2 (by omega) (by omega); have hB2 := below_fits hgrow2 hsz (Nat.le_refl _))
          | (go_at_call 142; have hq_ := hrun4; clear hq_; refine (follow1_at (1 - x) 1 Ht2.out hrun4 (by simp)).mono ?_; rintro e w5 ⟨rfl, hrun5, hO5⟩)
          | (go_at_call 142; refine (follow1_at x 5 Hq.out hrun2 hs62).mono ?_; rintro e w3 ⟨rfl, hrun3, hO3⟩; have hown3 := hO3.own hown2 (by omega) (by omega))
          | (go_at_call 130; refine (opposite_any x HB.out _).mono ?_; rintro e w3' ⟨rfl, rfl⟩))
        have hB3 := hB2.trans (hO3.below.mono (by omega))
        have hB4 := hB3.trans (below_fits hgrow4 (by rw [hO3.size]; have := hB2.size; omega) (Nat.le_refl _))
        have hBB := hB.trans (hB4.trans (hO5.below.mono (by omega)))
        have hown5 := hO5.own hown4 (by omega) (by omega)
        refine ⟨⟨k + 1, m + 1 + 1, by omega, by go_num, L2.out, rfl, ?_, ?_, hBB⟩, by simp [intOf]; omega⟩
        · rw [E1.out, List.map_append]
          simpa using hown5
        · rw [E2.out]; exact hrun5
      · have e1' : stuffL (l.take (k + 1)) = stuffL (l.take k) ++ [x] := by
          show stuffF _ _ = stuffF _ _ ++ _
          rw [e1]; simp [stuffF, hq, h5]
        have e2' : stuffS (0, 0) (l.take (k + 1)) = (x, q) := by rw [e2]; simp [stuffS, hq, h5]
        have l2 : (stuffL (l.take (k + 1))).length = m + 1 := by rw [e1', List.length_append, Hml.out]; rfl
        rw [l2] at hfit2
        have d5 : ((q : Int) == 5) = false := by simp; omega
        have E1 := Lib.hid e1'
        have E2 := Lib.hid e2'
        have L2 := Lib.hid l2
        clear hx e1 e2 e1' e2' hq l2
        go_wp2_with (first
          | (at_builtin; refine wpList_append_fits _ rfl _ _ 39 rfl w.heap.size 3 i0 1 Tryz.underlying39 hi hz1 w.heap.size m (l.length + l.length / 4) _ rfl (hown.alloc _) ⟨wr.heap.size, 0, none⟩ 1 1 [.int .i64 x] rfl rfl (cell_one_new _ _ _) (by simp [Value.oneCell']) (by omega) ?_; intro w2 hown2 hgrow2; have hrun2 := hrun.fits hgrow2 (by omega) (by omega); have hB2 := below_fits hgrow2 hsz (Nat.le_refl _))
          | (go_at_call 142; refine (follow1_at x q Hq.out hrun2 hs62).mono ?_; rintro e w3 ⟨rfl, hrun3, hO3⟩; have hown3 := hO3.own hown2 (by omega) (by omega)))
        have hBB := hB.trans (hB2.trans (hO3.below.mono (by omega)))
        refine ⟨⟨k + 1, m + 1, by omega, by go_num, L2.out, rfl, ?_, ?_, hBB⟩, by simp [intOf]; omega⟩
        · rw [E1.out, List.map_append]
          exact hown3
        · rw [E2.out]; exact hrun3
    · obtain rfl : k = l.length := by omega
      rw [List.take_length] at hml hown
      subst hml
      go_wp2
      go_ret
      exact ⟨_, rfl, hown, hB⟩
def stripL (l : List Int) : List Int × Option Nat := stripF (0, 0) l
def Left (l o : List Int) (s : Int × Nat) (k : Nat) : Prop := stripL l = (o ++ (stripF s (l.drop k)).1, (stripF s (l.drop k)).2.map (· + k))
end Go.Proofs.YtcifjccojmfpaaaGreat

