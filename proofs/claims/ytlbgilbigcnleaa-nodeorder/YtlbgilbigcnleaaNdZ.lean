/-
  place, Next: the document.
-/
import Derived.Test.YtlbgilbigcnleaaNdQ
import Derived.Test.YtlbgilbigcnleaaNAny
namespace Go.Proofs.Ytlbgilbigcnleaa
open Go.RowKit
set_option linter.unusedVariables false
set_option linter.unusedSimpArgs false

set_option maxRecDepth 100000 in
set_option maxHeartbeats 1000000 in
theorem place_c {w : World} {P : Nat → Prop} {n : NV} {N : NC} (h : NIs w P n N) (hok : ∀ F ∈ N.q, okC F) (hm : n.qm ≤ 1000) (z : Int) (hz : (if hasN N then (atN N : Int) else -1) = z) :
    Calls Try.prog 51 #[n.v] w fun e w' => e = .returned (.int .i64 z) ∧ Below w.heap.size w w' := by
  obtain ⟨qa, qm, qc, la, lm, lc, kk, ga, gm, gc⟩ := n
  have hq := h.q
  have Hek := Lib.hid (show kk = N.k from h.k)
  dsimp only at hq hm
  have Hok := Lib.hid hok
  have hl := hq.len
  by_cases hs : kk.s = 3
  · skip
    obtain rfl : -1 = z := by rw [← hz]; unfold hasN; rw [← Hek.out]; simp [hs]
    clear Hek
    obtain ⟨kt, kr, ks, kq⟩ := kk
    dsimp only at hs
    subst hs
    clear hz
    by_cases h0 : (0 : Int) < (qm : Int)
    · skip
      have d0 : decide ((0 : Int) < (qm : Int)) = true := by simpa using h0
      obtain ⟨w0, hw0⟩ : ∃ w0, (w.alloc (.cells #[.slice qa qm qc, .slice la lm lc, .int .i64 kt, .int .i64 kr, .int .i64 3, .int .i64 kq, .slice ga gm gc] 27)) = w0 := ⟨_, rfl⟩
      have hT0 : Below w.heap.size w w0 := by rw [← hw0]; exact below_alloc1 _ _
      have hn0 : w0.heap[w.heap.size]? = some (.cells #[.slice qa qm qc, .slice la lm lc, .int .i64 kt, .int .i64 kr, .int .i64 3, .int .i64 kq, .slice ga gm gc] 27) := by rw [← hw0]; exact World.alloc_heap_new _ _
      have hs0 : w0.heap.size = w.heap.size + 1 := by rw [← hw0]; simp
      have Hs0 := Lib.hid hs0
      clear hs0
      obtain ⟨nc0, nc1, nc2, nc3, nc4, nc5, nc6⟩ := cells7' hn0
      go_enter Try.func51, Try.ntmps51
      go_wp2_with fail
      clear nc0 nc1 nc2 nc3 nc4 nc5 nc6
      clear hw0
      have hZ0 := Below.refl w0.heap.size w0
      go_loop [3, 4] (fun a i => a = .int .i64 (-1) ∧ i = .int .i64 0) (fun _ i => 0)
      case atStart => exact ⟨rfl, rfl⟩
      case round =>
        obtain ⟨rfl, rfl⟩ := hrel
        obtain ⟨nc0, nc1, nc2, nc3, nc4, nc5, nc6⟩ := cells7' hn0
        go_wp2_with fail
        clear nc0 nc1 nc2 nc3 nc4 nc5 nc6
        go_ret
        exact ⟨rfl, hT0⟩
    have d0 : decide ((0 : Int) < (qm : Int)) = false := by simpa using h0
    obtain rfl : qm = 0 := by omega
    clear d0 h0
    obtain ⟨w0, hw0⟩ : ∃ w0, (w.alloc (.cells #[.slice qa 0 qc, .slice la lm lc, .int .i64 kt, .int .i64 kr, .int .i64 3, .int .i64 kq, .slice ga gm gc] 27)) = w0 := ⟨_, rfl⟩
    have hT0 : Below w.heap.size w w0 := by rw [← hw0]; exact below_alloc1 _ _
    have hn0 : w0.heap[w.heap.size]? = some (.cells #[.slice qa 0 qc, .slice la lm lc, .int .i64 kt, .int .i64 kr, .int .i64 3, .int .i64 kq, .slice ga gm gc] 27) := by rw [← hw0]; exact World.alloc_heap_new _ _
    have hs0 : w0.heap.size = w.heap.size + 1 := by rw [← hw0]; simp
    have Hs0 := Lib.hid hs0
    clear hs0
    obtain ⟨nc0, nc1, nc2, nc3, nc4, nc5, nc6⟩ := cells7' hn0
    go_enter Try.func51, Try.ntmps51
    go_wp2_with fail
    clear nc0 nc1 nc2 nc3 nc4 nc5 nc6
    clear hw0
    have hZ0 := Below.refl w0.heap.size w0
    go_loop [3, 4] (fun a i => a = .int .i64 (-1) ∧ i = .int .i64 0) (fun _ i => 0)
    case atStart => exact ⟨rfl, rfl⟩
    case round =>
      obtain ⟨rfl, rfl⟩ := hrel
      obtain ⟨nc0, nc1, nc2, nc3, nc4, nc5, nc6⟩ := cells7' hn0
      go_wp2_with fail
      clear nc0 nc1 nc2 nc3 nc4 nc5 nc6
      go_ret
      exact ⟨rfl, hT0⟩
  have hs2 : (kk.s != 3) = true := by simpa [bne] using hs
  have hs3 : (kk.s == 3) = false := by simpa using hs
  have hz2 : (if qm = 0 then -1 else (leastTo N.q qm : Int)) = z := by
    rw [← hz]; unfold hasN atN; rw [← Hek.out, hl]
    by_cases e0 : qm = 0
    · have : N.q = [] := List.eq_nil_of_length_eq_zero (hl.trans e0)
      simp [e0, this]
    · have : N.q ≠ [] := by intro e; rw [e] at hl; simp at hl; omega
      simp [e0, this, hs]
  have Hz := Lib.hid hz2
  clear hz hz2 hs
  obtain ⟨w0, hw0⟩ : ∃ w0, (w.alloc (.cells #[.slice qa qm qc, .slice la lm lc, .int .i64 kk.t, .int .i64 kk.r, .int .i64 kk.s, .int .i64 kk.q, .slice ga gm gc] 27)) = w0 := ⟨_, rfl⟩
  have hT0 : Below w.heap.size w w0 := by rw [← hw0]; exact below_alloc1 _ _
  have hn0 : w0.heap[w.heap.size]? = some (.cells #[.slice qa qm qc, .slice la lm lc, .int .i64 kk.t, .int .i64 kk.r, .int .i64 kk.s, .int .i64 kk.q, .slice ga gm gc] 27) := by rw [← hw0]; exact World.alloc_heap_new _ _
  have hs0 : w0.heap.size = w.heap.size + 1 := by rw [← hw0]; simp
  have Hs0 := Lib.hid hs0
  clear hs0
  obtain ⟨nc0, nc1, nc2, nc3, nc4, nc5, nc6⟩ := cells7' hn0
  go_enter Try.func51, Try.ntmps51
  go_wp2_with fail
  clear nc0 nc1 nc2 nc3 nc4 nc5 nc6
  clear hw0
  have hZ0 := Below.refl w0.heap.size w0
  go_loopw [3, 4] (fun a i wr => ∃ (k : Nat) (x : Int), k ≤ qm ∧ i = .int .i64 k ∧ a = .int .i64 x ∧ Hid (x = if k = 0 then -1 else (leastTo N.q k : Int)) ∧ wr.heap[w.heap.size]? = some (.cells #[.slice qa qm qc, .slice la lm lc, .int .i64 kk.t, .int .i64 kk.r, .int .i64 kk.s, .int .i64 kk.q, .slice ga gm gc] 27) ∧ Below w.heap.size w wr) (fun _ i _ => qm - (intOf i).toNat)
  case atStart => exact ⟨0, -1, Nat.zero_le _, rfl, rfl, Lib.hid (by simp), hn0, hT0⟩
  case round =>
    clear hn0 hT0 hZ0
    obtain ⟨k, x, hk, rfl, rfl, Hx, hn50, hT50⟩ := hrel
    by_cases hlt : k < qm
    · skip
      have i1 : (k : Int) < (qm : Int) := by omega
      have d1 : decide ((k : Int) < (qm : Int)) = true := by simpa using i1
      by_cases k0 : k = 0
      · skip
        have hx1 : x = -1 := by rw [Hx.out, if_pos k0]
        subst hx1
        subst k0
        clear Hx
        obtain ⟨nc0, nc1, nc2, nc3, nc4, nc5, nc6⟩ := cells7' hn50
        go_wp2_with fail
        clear nc0 nc1 nc2 nc3 nc4 nc5 nc6
        refine wp_region_held_drew (S := fun W => (W.cell? ⟨w.heap.size, 0, none⟩ = some (.slice qa qm qc) ∧ W.cell? ⟨w.heap.size, 1, none⟩ = some (.slice la lm lc) ∧ W.cell? ⟨w.heap.size, 2, none⟩ = some (.int .i64 kk.t) ∧ W.cell? ⟨w.heap.size, 3, none⟩ = some (.int .i64 kk.r) ∧ W.cell? ⟨w.heap.size, 4, none⟩ = some (.int .i64 kk.s) ∧ W.cell? ⟨w.heap.size, 5, none⟩ = some (.int .i64 kk.q) ∧ W.cell? ⟨w.heap.size, 6, none⟩ = some (.slice ga gm gc))) (by kernel_rfl) (by exact cells7' (block_below (below_drew1 _) hn50)) (fun hHeld_ => ?_)
        refine wpAnyH_take' (i := 0) (v := ?v0_t1) 18 rfl rfl (by kernel_rfl) (by kernel_rfl) (by kernel_rfl) (fun _ _ _ h => h) (Or.inl ⟨by kernel_rfl, ?hy0_t1⟩) (by assumption) ?rest0_t1
        case hy0_t1 => (intro W_ hS_; (try dsimp only at hS_); go_simp; (try (with_reducible rfl)))
        try simp only [Act.put, List.setIfInBounds_toArray, List.set_cons_zero, List.set_cons_succ]
        refine wpAnyH_take' (i := 1) (v := ?v1_t1) 19 rfl rfl (by kernel_rfl) (by kernel_rfl) (by kernel_rfl) (fun _ _ _ h => h) (Or.inl ⟨by kernel_rfl, ?hy1_t1⟩) (by assumption) ?rest1_t1
        case hy1_t1 => (intro W_ hS_; (try dsimp only at hS_); go_simp; (try (with_reducible rfl)))
        try simp only [Act.put, List.setIfInBounds_toArray, List.set_cons_zero, List.set_cons_succ]
        refine wpAnyH_take' (i := 2) (v := ?v2_t1) 20 rfl rfl (by kernel_rfl) (by kernel_rfl) (by kernel_rfl) (fun _ _ _ h => h) (Or.inl ⟨by kernel_rfl, ?hy2_t1⟩) (by assumption) ?rest2_t1
        case hy2_t1 => (intro W_ hS_; (try dsimp only at hS_); go_simp; (try (with_reducible rfl)))
        try simp only [Act.put, List.setIfInBounds_toArray, List.set_cons_zero, List.set_cons_succ]
        refine wpAnyH_take' (i := 3) (v := undef) 21 rfl rfl (by kernel_rfl) (by kernel_rfl) (by kernel_rfl) (fun _ _ _ h => h) (Or.inr ⟨by kernel_rfl, rfl⟩) (by assumption) ?_
        try simp only [Act.put, List.setIfInBounds_toArray, List.set_cons_zero, List.set_cons_succ]
        refine wpAnyH_take' (i := 4) (v := undef) 22 rfl rfl (by kernel_rfl) (by kernel_rfl) (by kernel_rfl) (fun _ _ _ h => h) (Or.inr ⟨by kernel_rfl, rfl⟩) (by assumption) ?_
        try simp only [Act.put, List.setIfInBounds_toArray, List.set_cons_zero, List.set_cons_succ]
        refine wpAnyH_take' (i := 5) (v := undef) 23 rfl rfl (by kernel_rfl) (by kernel_rfl) (by kernel_rfl) (fun _ _ _ h => h) (Or.inr ⟨by kernel_rfl, rfl⟩) (by assumption) ?_
        try simp only [Act.put, List.setIfInBounds_toArray, List.set_cons_zero, List.set_cons_succ]
        refine wpAnyH_take' (i := 6) (v := undef) 24 rfl rfl (by kernel_rfl) (by kernel_rfl) (by kernel_rfl) (fun _ _ _ h => h) (Or.inr ⟨by kernel_rfl, rfl⟩) (by assumption) ?_
        try simp only [Act.put, List.setIfInBounds_toArray, List.set_cons_zero, List.set_cons_succ]
        refine wpAnyH_take' (i := 7) (v := undef) 25 rfl rfl (by kernel_rfl) (by kernel_rfl) (by kernel_rfl) (fun _ _ _ h => h) (Or.inr ⟨by kernel_rfl, rfl⟩) (by assumption) ?_
        try simp only [Act.put, List.setIfInBounds_toArray, List.set_cons_zero, List.set_cons_succ]
        refine wpAnyH_take' (i := 9) (v := undef) 27 rfl rfl (by kernel_rfl) (by kernel_rfl) (by kernel_rfl) (fun _ _ _ h => h) (Or.inr ⟨by kernel_rfl, rfl⟩) (by assumption) ?_
        try simp only [Act.put, List.setIfInBounds_toArray, List.set_cons_zero, List.set_cons_succ]
        refine wpAnyH_take' (i := 10) (v := undef) 28 rfl rfl (by kernel_rfl) (by kernel_rfl) (by kernel_rfl) (fun _ _ _ h => h) (Or.inr ⟨by kernel_rfl, rfl⟩) (by assumption) ?_
        try simp only [Act.put, List.setIfInBounds_toArray, List.set_cons_zero, List.set_cons_succ]
        refine wpAnyH_take' (i := 11) (v := undef) 29 rfl rfl (by kernel_rfl) (by kernel_rfl) (by kernel_rfl) (fun _ _ _ h => h) (Or.inr ⟨by kernel_rfl, rfl⟩) (by assumption) ?_
        try simp only [Act.put, List.setIfInBounds_toArray, List.set_cons_zero, List.set_cons_succ]
        refine wpAnyH_take' (i := 12) (v := undef) 30 rfl rfl (by kernel_rfl) (by kernel_rfl) (by kernel_rfl) (fun _ _ _ h => h) (Or.inr ⟨by kernel_rfl, rfl⟩) (by assumption) ?_
        try simp only [Act.put, List.setIfInBounds_toArray, List.set_cons_zero, List.set_cons_succ]
        refine wpAnyH_take' (i := 13) (v := undef) 31 rfl rfl (by kernel_rfl) (by kernel_rfl) (by kernel_rfl) (fun _ _ _ h => h) (Or.inr ⟨by kernel_rfl, rfl⟩) (by assumption) ?_
        try simp only [Act.put, List.setIfInBounds_toArray, List.set_cons_zero, List.set_cons_succ]
        refine wpAnyH_skip (i := 8) 26 rfl rfl (by kernel_rfl) (by kernel_rfl) (by assumption) ?_
        try simp only [Act.put, List.setIfInBounds_toArray, List.set_cons_zero, List.set_cons_succ]
        refine wpAnyH_skip (i := 14) 32 rfl rfl (by kernel_rfl) (by kernel_rfl) (by assumption) ?_
        try simp only [Act.put, List.setIfInBounds_toArray, List.set_cons_zero, List.set_cons_succ]
        refine wpAnyH_skip (i := 15) 33 rfl rfl (by kernel_rfl) (by kernel_rfl) (by assumption) ?_
        try simp only [Act.put, List.setIfInBounds_toArray, List.set_cons_zero, List.set_cons_succ]
        refine wpAnyH_take' (i := 16) (v := ?v16_t1) 34 rfl rfl (by kernel_rfl) (by kernel_rfl) (by kernel_rfl) (fun _ _ _ h => h) (Or.inl ⟨by kernel_rfl, ?hy16_t1⟩) (by assumption) ?rest16_t1
        case hy16_t1 => (intro W_ hS_; (try dsimp only at hS_); go_simp; (try (with_reducible rfl)))
        try simp only [Act.put, List.setIfInBounds_toArray, List.set_cons_zero, List.set_cons_succ]
        refine wpAnyH_done (by kernel_rfl) ?_ _
        obtain ⟨nc0, nc1, nc2, nc3, nc4, nc5, nc6⟩ := cells7' hn50
        go_wp2_with fail
        clear nc0 nc1 nc2 nc3 nc4 nc5 nc6
        go_round
        case measure => simp [intOf]; omega
        exact ⟨1, 0, by omega, by go_num, rfl, Lib.hid (by rw [leastTo_first]; simp), hn50, below_then hT50 (below_drew1 _)⟩
      have hx1 : x = (leastTo N.q k : Int) := by rw [Hx.out, if_neg k0]
      clear Hx
      obtain ⟨j, hj⟩ : ∃ j, leastTo N.q k = j := ⟨_, rfl⟩
      have hjk : j < k := by rw [← hj]; exact leastTo_lt (by omega)
      rw [hj] at hx1
      subst hx1
      have Hj := Lib.hid hj
      clear hj
      obtain ⟨ad, f, ea, ha, hf, hF⟩ := fsl_getD (hq.to hT50) hlt
      obtain ⟨ad2, g, eb, hb, hg, hG⟩ := fsl_getD (hq.to hT50) (k := j) (by omega)
      subst ea
      obtain rfl := Option.some.inj eb
      clear eb
      have HF := Lib.hid (Hok.out _ hF)
      have HG := Lib.hid (Hok.out _ hG)
      clear hF hG
      have i2 : (j : Int) < (qm : Int) := by omega
      have i3 : ¬ (j : Int) < 0 := by omega
      have d3 : decide ((j : Int) < 0) = false := by simp
      obtain ⟨n1, hn1⟩ : ∃ n1, (rankC (N.q.getD k zeroF)).length = n1 := ⟨_, rfl⟩
      obtain ⟨n2, hn2⟩ : ∃ n2, (rankC (N.q.getD j zeroF)).length = n2 := ⟨_, rfl⟩
      have hl1 := rankC_le (N.q.getD k zeroF)
      have hl2 := rankC_le (N.q.getD j zeroF)
      rw [hn1] at hl1
      rw [hn2] at hl2
      have Hn1 := Lib.hid hn1
      have Hn2 := Lib.hid hn2
      clear hn1 hn2
      obtain ⟨q, hq⟩ : ∃ q, lessC (N.q.getD k zeroF) (N.q.getD j zeroF) = q := ⟨_, rfl⟩
      have Hq := Lib.hid hq
      clear hq
      have Hnx := Lib.hid (show leastTo N.q (k + 1) = if q then k else j by rw [leastTo, Hj.out, Hq.out])
      have hx50 := hf
      have hy50 := hg
      obtain ⟨a0, a1, a2, a3, a4⟩ := ha
      obtain ⟨b0, b1, b2, b3, b4⟩ := hb
      obtain ⟨nc0, nc1, nc2, nc3, nc4, nc5, nc6⟩ := cells7' hn50
      go_wp2_with fail
      clear nc0 nc1 nc2 nc3 nc4 nc5 nc6
      have ha := (⟨a0, a1, a2, a3, a4⟩ : FAt wr (ad.add (k * 5)) f)
      have hb := (⟨b0, b1, b2, b3, b4⟩ : FAt wr (ad.add (j * 5)) g)
      clear a0 a1 a2 a3 a4 b0 b1 b2 b3 b4
      refine wp_region_held_drew (S := fun W => (W.cell? ⟨w.heap.size, 0, none⟩ = some (.slice (some ad) qm qc) ∧ W.cell? ⟨w.heap.size, 1, none⟩ = some (.slice la lm lc) ∧ W.cell? ⟨w.heap.size, 2, none⟩ = some (.int .i64 kk.t) ∧ W.cell? ⟨w.heap.size, 3, none⟩ = some (.int .i64 kk.r) ∧ W.cell? ⟨w.heap.size, 4, none⟩ = some (.int .i64 kk.s) ∧ W.cell? ⟨w.heap.size, 5, none⟩ = some (.int .i64 kk.q) ∧ W.cell? ⟨w.heap.size, 6, none⟩ = some (.slice ga gm gc)) ∧ (W.cell? (ad.add (k * 5)) = some (.bool f.x) ∧ W.cell? ⟨(ad.add (k * 5)).block, (ad.add (k * 5)).off + 1, none⟩ = some (.int .i64 f.i) ∧ W.cell? ⟨(ad.add (k * 5)).block, (ad.add (k * 5)).off + 2, none⟩ = some (.bool f.r) ∧ W.cell? ⟨(ad.add (k * 5)).block, (ad.add (k * 5)).off + 3, none⟩ = some (.int .i64 f.n) ∧ W.cell? ⟨(ad.add (k * 5)).block, (ad.add (k * 5)).off + 4, none⟩ = some (.slice f.a f.m f.c)) ∧ (W.cell? (ad.add (j * 5)) = some (.bool g.x) ∧ W.cell? ⟨(ad.add (j * 5)).block, (ad.add (j * 5)).off + 1, none⟩ = some (.int .i64 g.i) ∧ W.cell? ⟨(ad.add (j * 5)).block, (ad.add (j * 5)).off + 2, none⟩ = some (.bool g.r) ∧ W.cell? ⟨(ad.add (j * 5)).block, (ad.add (j * 5)).off + 3, none⟩ = some (.int .i64 g.n) ∧ W.cell? ⟨(ad.add (j * 5)).block, (ad.add (j * 5)).off + 4, none⟩ = some (.slice g.a g.m g.c))) (by kernel_rfl) (by exact ⟨cells7' (block_below (below_drew1 _) hn50), (fat_to ha (below_drew1 _)), (fat_to hb (below_drew1 _))⟩) (fun hHeld_ => ?_)
      refine wpAnyH_take' (i := 0) (v := ?v0_t2) 18 rfl rfl (by kernel_rfl) (by kernel_rfl) (by kernel_rfl) (fun _ _ _ h => h) (Or.inl ⟨by kernel_rfl, ?hy0_t2⟩) (by assumption) ?rest0_t2
      case hy0_t2 => (intro W_ hS_; (try dsimp only at hS_); go_simp; (try (with_reducible rfl)))
      try simp only [Act.put, List.setIfInBounds_toArray, List.set_cons_zero, List.set_cons_succ]
      refine wpAnyH_take' (i := 1) (v := ?v1_t2) 19 rfl rfl (by kernel_rfl) (by kernel_rfl) (by kernel_rfl) (fun _ _ _ h => h) (Or.inl ⟨by kernel_rfl, ?hy1_t2⟩) (by assumption) ?rest1_t2
      case hy1_t2 => (intro W_ hS_; (try dsimp only at hS_); go_simp; (try (with_reducible rfl)))
      try simp only [Act.put, List.setIfInBounds_toArray, List.set_cons_zero, List.set_cons_succ]
      refine wpAnyH_take' (i := 2) (v := ?v2_t2) 20 rfl rfl (by kernel_rfl) (by kernel_rfl) (by kernel_rfl) (fun _ _ _ h => h) (Or.inl ⟨by kernel_rfl, ?hy2_t2⟩) (by assumption) ?rest2_t2
      case hy2_t2 => (intro W_ hS_; (try dsimp only at hS_); go_simp; (try (with_reducible rfl)))
      try simp only [Act.put, List.setIfInBounds_toArray, List.set_cons_zero, List.set_cons_succ]
      refine wpAnyH_take' (i := 3) (v := ?v3_t2) 21 rfl rfl (by kernel_rfl) (by kernel_rfl) (by kernel_rfl) (fun _ _ _ h => h) (Or.inl ⟨by kernel_rfl, ?hy3_t2⟩) (by assumption) ?rest3_t2
      case hy3_t2 => (intro W_ hS_; (try dsimp only at hS_); go_simp; (try (with_reducible rfl)))
      try simp only [Act.put, List.setIfInBounds_toArray, List.set_cons_zero, List.set_cons_succ]
      refine wpAnyH_take' (i := 4) (v := ?v4_t2) 22 rfl rfl (by kernel_rfl) (by kernel_rfl) (by kernel_rfl) (fun _ _ _ h => h) (Or.inl ⟨by kernel_rfl, ?hy4_t2⟩) (by assumption) ?rest4_t2
      case hy4_t2 => (intro W_ hS_; (try dsimp only at hS_); go_simp; (try (with_reducible rfl)))
      try simp only [Act.put, List.setIfInBounds_toArray, List.set_cons_zero, List.set_cons_succ]
      refine wpAnyH_take' (i := 5) (v := ?v5_t2) 23 rfl rfl (by kernel_rfl) (by kernel_rfl) (by kernel_rfl) (fun _ _ _ h => h) (Or.inl ⟨by kernel_rfl, ?hy5_t2⟩) (by assumption) ?rest5_t2
      case hy5_t2 => (intro W_ hS_; (try dsimp only at hS_); go_simp; (try (with_reducible rfl)))
      try simp only [Act.put, List.setIfInBounds_toArray, List.set_cons_zero, List.set_cons_succ]
      refine wpAnyH_take' (i := 6) (v := ?v6_t2) 24 rfl rfl (by kernel_rfl) (by kernel_rfl) (by kernel_rfl) (fun _ _ _ h => h) (Or.inl ⟨by kernel_rfl, ?hy6_t2⟩) (by assumption) ?rest6_t2
      case hy6_t2 => (intro W_ hS_; (try dsimp only at hS_); go_simp; (try (with_reducible rfl)))
      try simp only [Act.put, List.setIfInBounds_toArray, List.set_cons_zero, List.set_cons_succ]
      refine wpAnyH_take' (i := 7) (v := ?v7_t2) 25 rfl rfl (by kernel_rfl) (by kernel_rfl) (by kernel_rfl) (fun _ _ _ h => h) (Or.inl ⟨by kernel_rfl, ?hy7_t2⟩) (by assumption) ?rest7_t2
      case hy7_t2 => (intro W_ hS_; (try dsimp only at hS_); go_simp; (try (with_reducible rfl)))
      try simp only [Act.put, List.setIfInBounds_toArray, List.set_cons_zero, List.set_cons_succ]
      refine wpAnyH_take' (i := 9) (v := ?v9_t2) 27 rfl rfl (by kernel_rfl) (by kernel_rfl) (by kernel_rfl) (fun _ _ _ h => h) (Or.inl ⟨by kernel_rfl, ?hy9_t2⟩) (by assumption) ?rest9_t2
      case hy9_t2 => (intro W_ hS_; (try dsimp only at hS_); go_simp; (try (with_reducible rfl)))
      try simp only [Act.put, List.setIfInBounds_toArray, List.set_cons_zero, List.set_cons_succ]
      refine wpAnyH_take' (i := 10) (v := ?v10_t2) 28 rfl rfl (by kernel_rfl) (by kernel_rfl) (by kernel_rfl) (fun _ _ _ h => h) (Or.inl ⟨by kernel_rfl, ?hy10_t2⟩) (by assumption) ?rest10_t2
      case hy10_t2 => (intro W_ hS_; (try dsimp only at hS_); go_simp; (try (with_reducible rfl)))
      try simp only [Act.put, List.setIfInBounds_toArray, List.set_cons_zero, List.set_cons_succ]
      refine wpAnyH_take' (i := 11) (v := ?v11_t2) 29 rfl rfl (by kernel_rfl) (by kernel_rfl) (by kernel_rfl) (fun _ _ _ h => h) (Or.inl ⟨by kernel_rfl, ?hy11_t2⟩) (by assumption) ?rest11_t2
      case hy11_t2 => (intro W_ hS_; (try dsimp only at hS_); go_simp; (try (with_reducible rfl)))
      try simp only [Act.put, List.setIfInBounds_toArray, List.set_cons_zero, List.set_cons_succ]
      refine wpAnyH_take' (i := 12) (v := ?v12_t2) 30 rfl rfl (by kernel_rfl) (by kernel_rfl) (by kernel_rfl) (fun _ _ _ h => h) (Or.inl ⟨by kernel_rfl, ?hy12_t2⟩) (by assumption) ?rest12_t2
      case hy12_t2 => (intro W_ hS_; (try dsimp only at hS_); go_simp; (try (with_reducible rfl)))
      try simp only [Act.put, List.setIfInBounds_toArray, List.set_cons_zero, List.set_cons_succ]
      refine wpAnyH_take' (i := 13) (v := ?v13_t2) 31 rfl rfl (by kernel_rfl) (by kernel_rfl) (by kernel_rfl) (fun _ _ _ h => h) (Or.inl ⟨by kernel_rfl, ?hy13_t2⟩) (by assumption) ?rest13_t2
      case hy13_t2 => (intro W_ hS_; (try dsimp only at hS_); go_simp; (try (with_reducible rfl)))
      try simp only [Act.put, List.setIfInBounds_toArray, List.set_cons_zero, List.set_cons_succ]
      refine wpAnyH_ready (rs := [8]) (by kernel_rfl) (by simp) ?_
      refine AllReadyH.cons rfl (fun K_ hK_ => ?_) AllReadyH.nil
      go_simp
      refine (refRank_c (FIs.to hx50 (below_drew1 _)) HF.out n1 Hn1.out).mono ?_; rintro e wr8 ⟨A1, c1, rfl, hr1_, hc1, hBr8⟩
      go_wp2_with fail
      refine hK_.out _ _ (by exact ⟨cells7' (block_below hBr8 (block_below (below_drew1 _) hn50)), (fat_to (fat_to ha (below_drew1 _)) hBr8), (fat_to (fat_to hb (below_drew1 _)) hBr8)⟩) (fun hHeld_8 => ?_)
      clear hK_
      try simp only [Act.put, List.setIfInBounds_toArray, List.set_cons_zero, List.set_cons_succ]
      refine wpAnyH_ready (rs := [14]) (by kernel_rfl) (by simp) ?_
      refine AllReadyH.cons rfl (fun K_ hK_ => ?_) AllReadyH.nil
      go_simp
      refine (refRank_c (FIs.to (FIs.to hy50 (below_drew1 _)) hBr8) HG.out n2 Hn2.out).mono ?_; rintro e wr14 ⟨A2, c2, rfl, hr2_, hc2, hBr14⟩
      go_wp2_with fail
      refine hK_.out _ _ (by exact ⟨cells7' (block_below hBr14 (block_below hBr8 (block_below (below_drew1 _) hn50))), (fat_to (fat_to (fat_to ha (below_drew1 _)) hBr8) hBr14), (fat_to (fat_to (fat_to hb (below_drew1 _)) hBr8) hBr14)⟩) (fun hHeld_14 => ?_)
      clear hK_
      try simp only [Act.put, List.setIfInBounds_toArray, List.set_cons_zero, List.set_cons_succ]
      refine wpAnyH_ready (rs := [15]) (by kernel_rfl) (by simp) ?_
      refine AllReadyH.cons rfl (fun K_ hK_ => ?_) AllReadyH.nil
      go_simp
      refine (below_any (rankC (N.q.getD k zeroF)) (rankC (N.q.getD j zeroF)) n1 n2 Hn1.out Hn2.out A1 A2 c1 c2 _ (Row.to hr1_ hBr14) hr2_ (by omega) (by omega) q Hq.out).mono ?_; rintro e wr15 ⟨rfl, hBr15⟩
      go_wp2_with fail
      refine hK_.out _ _ (by exact ⟨cells7' (block_below hBr15 (block_below hBr14 (block_below hBr8 (block_below (below_drew1 _) hn50)))), (fat_to (fat_to (fat_to (fat_to ha (below_drew1 _)) hBr8) hBr14) hBr15), (fat_to (fat_to (fat_to (fat_to hb (below_drew1 _)) hBr8) hBr14) hBr15)⟩) (fun hHeld_15 => ?_)
      clear hK_
      try simp only [Act.put, List.setIfInBounds_toArray, List.set_cons_zero, List.set_cons_succ]
      refine wpAnyH_take' (i := 16) (v := ?v16_t2) 34 rfl rfl (by kernel_rfl) (by kernel_rfl) (by kernel_rfl) (fun _ _ _ h => h) (Or.inl ⟨by kernel_rfl, ?hy16_t2⟩) (by assumption) ?rest16_t2
      case hy16_t2 => (intro W_ hS_; (try dsimp only at hS_); go_simp; (try (with_reducible rfl)))
      try simp only [Act.put, List.setIfInBounds_toArray, List.set_cons_zero, List.set_cons_succ]
      refine wpAnyH_done (by kernel_rfl) ?_ _
      obtain ⟨w51, hw51⟩ : ∃ w51, wr15 = w51 := ⟨_, rfl⟩
      have hB51 : Below wr.heap.size wr w51 := by rw [← hw51]; exact (below_then (below_then (below_then (below_drew1 _) hBr8) hBr14) hBr15)
      have hr151 := (Row.to (Row.to hr1_ hBr14) hBr15)
      rw [hw51] at hr151
      have hr251 := (Row.to hr2_ hBr15)
      rw [hw51] at hr251
      rw [hw51]
      clear hw51 hr1_ hr2_ hBr8 hBr14 hBr15
      have hT51 := below_then hT50 hB51
      have hn51 := block_below hB51 hn50
      have hx51 := FIs.to hx50 hB51
      have hy51 := FIs.to hy50 hB51
      clear hT50 hn50 hx50 hy50 hB51
      clear hr151
      clear hr251
      clear hx51
      clear hy51
      cases q
      · skip
        obtain ⟨nc0, nc1, nc2, nc3, nc4, nc5, nc6⟩ := cells7' hn51
        go_wp2_with fail
        clear nc0 nc1 nc2 nc3 nc4 nc5 nc6
        go_round
        case measure => simp [intOf]; omega
        exact ⟨k + 1, j, by omega, by go_num, rfl, Lib.hid (by rw [Hnx.out, if_neg (by omega)]; simp), hn51, hT51⟩
      obtain ⟨nc0, nc1, nc2, nc3, nc4, nc5, nc6⟩ := cells7' hn51
      go_wp2_with fail
      clear nc0 nc1 nc2 nc3 nc4 nc5 nc6
      go_round
      case measure => simp [intOf]; omega
      exact ⟨k + 1, k, by omega, by go_num, rfl, Lib.hid (by rw [Hnx.out, if_neg (by omega)]; simp), hn51, hT51⟩
    obtain rfl : k = qm := by omega
    have i1 : ¬ (k : Int) < (k : Int) := by omega
    have d1 : decide ((k : Int) < (k : Int)) = false := by simp
    have Hxz := Lib.hid (show x = z by rw [Hx.out]; exact Hz.out)
    clear Hx
    obtain ⟨nc0, nc1, nc2, nc3, nc4, nc5, nc6⟩ := cells7' hn50
    go_wp2_with fail
    go_ret
    exact ⟨ret_int Hxz.out, hT50⟩

end Go.Proofs.Ytlbgilbigcnleaa
