/-
  Take: the program.
-/
import Derived.Test.YtlbgilbigcnleaaNdT
namespace Go.Proofs.Ytlbgilbigcnleaa
open Go.RowKit
set_option linter.unusedVariables false
set_option linter.unusedSimpArgs false

set_option maxRecDepth 100000 in
set_option maxHeartbeats 4000000 in
theorem take_c {w : World} {P : Nat → Prop} {n : NV} {N : NC} (h : NIs w P n N) (hok : OkN N) (hP : ∀ b, w.heap.size ≤ b → P b) (M : NC) (hM : takeN N = M) (F : FC) (hF : takeF N = F) (q : Bool) (hq : takeB N = q) :
    Calls Try.prog 22 #[n.v] w fun e w' => ∃ (n' : NV) (f : FV), e = .returned (.tuple #[n'.v, f.v, .bool q]) ∧ NIs w' P n' M ∧ FIs w' P f F ∧ Below w.heap.size w w' := by
  have hm := gm_le h hok
  have hl := h.g.len
  clear hok
  unfold takeN at hM
  unfold takeF at hF
  unfold takeB at hq
  by_cases h0 : n.gm = 0
  · skip
    have hg : N.g = [] := List.eq_nil_of_length_eq_zero (hl.trans h0)
    obtain rfl : false = q := by rw [← hq, hg]; rfl
    obtain rfl : zeroF = F := by rw [← hF, hg]; rfl
    obtain rfl : N = M := by rw [← hM, hg]; cases N; simp at hg; subst hg; rfl
    have d1 : ((n.gm : Int) == 0) = true := by simp; omega
    have d2 : (n.gm == 0) = true := by simp; omega
    clear h0 hg hl hF hM hq
    obtain ⟨w0, hw0⟩ : ∃ w0, (((w.alloc (.cells #[.slice n.qa n.qm n.qc, .slice n.la n.lm n.lc, .int .i64 n.k.t, .int .i64 n.k.r, .int .i64 n.k.s, .int .i64 n.k.q, .slice n.ga n.gm n.gc] 27)).alloc (.cells #[.slice none 0 0, .slice none 0 0, .int .i64 0, .int .i64 0, .int .i64 0, .int .i64 0, .slice none 0 0] 27)).alloc (.cells #[.bool false, .int .i64 0, .bool false, .int .i64 0, .slice none 0 0] 30)) = w0 := ⟨_, rfl⟩
    have hT0 : Below w.heap.size w w0 := by rw [← hw0]; exact below_then (below_then (below_alloc1 _ _) (below_alloc1 _ _)) (below_alloc1 _ _)
    have hn0 : w0.heap[w.heap.size]? = some (.cells #[.slice n.qa n.qm n.qc, .slice n.la n.lm n.lc, .int .i64 n.k.t, .int .i64 n.k.r, .int .i64 n.k.s, .int .i64 n.k.q, .slice n.ga n.gm n.gc] 27) := by rw [← hw0]; exact block_below (below_alloc1 _ _) (block_below (below_alloc1 _ _) (World.alloc_heap_new _ _))
    have hr0 : w0.heap[(w.heap.size + 1)]? = some (.cells #[.slice none 0 0, .slice none 0 0, .int .i64 0, .int .i64 0, .int .i64 0, .int .i64 0, .slice none 0 0] 27) := by rw [← hw0]; exact block_below (below_alloc1 _ _) (alloc_at _ _ (by simp))
    have hp0 : w0.heap[(w.heap.size + 2)]? = some (.cells #[.bool false, .int .i64 0, .bool false, .int .i64 0, .slice none 0 0] 30) := by rw [← hw0]; exact alloc_at _ _ (by simp)
    have hs0 : w0.heap.size = w.heap.size + 3 := by rw [← hw0]; simp
    have Hs0 := Lib.hid hs0
    clear hs0
    obtain ⟨nc0, nc1, nc2, nc3, nc4, nc5, nc6⟩ := cells7' hn0
    obtain ⟨⟨rc0, rc1, rc2, rc3, rc4, rc5, rc6⟩, rf0, rf1, rf2, rf3, rf4, rf5, rf6⟩ := cells7 hr0
    obtain ⟨⟨pc0, pc1, pc2, pc3, pc4⟩, pf0, pf1, pf2, pf3, pf4⟩ := cells5 hp0
    go_enter Try.func22, Try.ntmps22
    go_wp2_with fail
    clear nc0 nc1 nc2 nc3 nc4 nc5 nc6 rc0 rc1 rc2 rc3 rc4 rc5 rc6 rf0 rf1 rf2 rf3 rf4 rf5 rf6 pc0 pc1 pc2 pc3 pc4 pf0 pf1 pf2 pf3 pf4
    clear hw0
    have hZ0 := Below.refl w0.heap.size w0
    exact bodyPost_ret (v := .tuple #[n.v, FV.v zeroFV, .bool false]) (results_nf1 (n := n) (f := zeroFV) (u := .bool false) rfl _ rfl rfl rfl (other_g (set5_grown _ _ _ _ _ _ _) (set7_obj hr0 _ _ _ _ _ _ _) (by omega)) (set5_obj (other_g (set7_grown _ _ _ _ _ _ _ _ _) hp0 (by omega)) _ _ _ _ _)) rfl ⟨n, zeroFV, rfl, h.to (below_g (below_g hT0 (set7_grown _ _ _ _ _ _ _ _ _) (by omega)) (set5_grown _ _ _ _ _ _ _) (by omega)), fis_zero, below_g (below_g hT0 (set7_grown _ _ _ _ _ _ _ _ _) (by omega)) (set5_grown _ _ _ _ _ _ _) (by omega)⟩
  have h1 : 0 < n.gm := by omega
  have hg : N.g ≠ [] := by intro e; rw [e] at hl; simp at hl; omega
  obtain rfl : true = q := by rw [← hq]; simp [hg]
  obtain ⟨Gs, hGs⟩ : ∃ Gs, N.g.eraseIdx 0 = Gs := ⟨_, rfl⟩
  have HGs := Lib.hid hGs
  obtain rfl : (⟨N.q, N.l, N.k, Gs⟩ : NC) = M := by rw [← hM, ← hGs]
  obtain ⟨m, hmm⟩ : ∃ m, m + 1 = n.gm := ⟨n.gm - 1, by omega⟩
  have Hm := Lib.hid hmm
  have d1 : ((n.gm : Int) == 0) = false := by simp; omega
  have d2 : (n.gm == 0) = false := by simp; omega
  have i1 : (0 : Int) < (n.gm : Int) := by omega
  clear h0 hg hl hM hq hmm hGs
  obtain ⟨qa, qm, qc, la, lm, lc, kk, ga, gm, gc⟩ := n
  dsimp only at h1 hm Hm d1 d2 i1
  obtain ⟨ad, f, F0, hga, hF0, ⟨a0, a1, a2, a3, a4⟩, hf⟩ := h.g.at_ h1
  dsimp only at hga
  subst hga
  obtain rfl : F = F0 := by rw [← hF]; simp [List.getD, hF0]
  clear hF hF0
  rw [Nat.zero_mul] at a0 a1 a2 a3 a4
  have ea : ad.add 0 = ad := by simp [Addr.add]
  rw [ea] at a0 a1 a2 a3 a4
  obtain ⟨w0, hw0⟩ : ∃ w0, (((w.alloc (.cells #[.slice qa qm qc, .slice la lm lc, .int .i64 kk.t, .int .i64 kk.r, .int .i64 kk.s, .int .i64 kk.q, .slice (some ad) gm gc] 27)).alloc (.cells #[.slice none 0 0, .slice none 0 0, .int .i64 0, .int .i64 0, .int .i64 0, .int .i64 0, .slice none 0 0] 27)).alloc (.cells #[.bool false, .int .i64 0, .bool false, .int .i64 0, .slice none 0 0] 30)) = w0 := ⟨_, rfl⟩
  have hT0 : Below w.heap.size w w0 := by rw [← hw0]; exact below_then (below_then (below_alloc1 _ _) (below_alloc1 _ _)) (below_alloc1 _ _)
  have hn0 : w0.heap[w.heap.size]? = some (.cells #[.slice qa qm qc, .slice la lm lc, .int .i64 kk.t, .int .i64 kk.r, .int .i64 kk.s, .int .i64 kk.q, .slice (some ad) gm gc] 27) := by rw [← hw0]; exact block_below (below_alloc1 _ _) (block_below (below_alloc1 _ _) (World.alloc_heap_new _ _))
  have hr0 : w0.heap[(w.heap.size + 1)]? = some (.cells #[.slice none 0 0, .slice none 0 0, .int .i64 0, .int .i64 0, .int .i64 0, .int .i64 0, .slice none 0 0] 27) := by rw [← hw0]; exact block_below (below_alloc1 _ _) (alloc_at _ _ (by simp))
  have hp0 : w0.heap[(w.heap.size + 2)]? = some (.cells #[.bool false, .int .i64 0, .bool false, .int .i64 0, .slice none 0 0] 30) := by rw [← hw0]; exact alloc_at _ _ (by simp)
  have hs0 : w0.heap.size = w.heap.size + 3 := by rw [← hw0]; simp
  have Hs0 := Lib.hid hs0
  clear hs0
  have ha := fat_to (f := f) ⟨a0, a1, a2, a3, a4⟩ hT0
  clear a0 a1 a2 a3 a4
  obtain ⟨a0, a1, a2, a3, a4⟩ := ha
  have hln := (Array.getElem?_eq_some_iff.1 hn0).1
  have hlr := (Array.getElem?_eq_some_iff.1 hr0).1
  have hlp := (Array.getElem?_eq_some_iff.1 hp0).1
  obtain ⟨nc0, nc1, nc2, nc3, nc4, nc5, nc6⟩ := cells7' hn0
  obtain ⟨rc0, rc1, rc2, rc3, rc4, rc5, rc6⟩ := cells7' hr0
  obtain ⟨pc0, pc1, pc2, pc3, pc4⟩ := cells5' hp0
  go_enter Try.func22, Try.ntmps22
  go_wp2_with fail
  clear nc0 nc1 nc2 nc3 nc4 nc5 nc6 rc0 rc1 rc2 rc3 rc4 rc5 rc6 pc0 pc1 pc2 pc3 pc4
  clear hw0
  have hZ0 := Below.refl w0.heap.size w0
  clear hln hlr hlp a0 a1 a2 a3 a4
  have hT0_ := Lib.hid hT0.size
  obtain ⟨w1, hw1⟩ : ∃ w1, w0.alloc (.cells #[.bool f.x, .int .i64 f.i, .bool f.r, .int .i64 f.n, .slice f.a f.m f.c] 30) = w1 := ⟨_, rfl⟩
  have hB1 : Below w0.heap.size w0 w1 := by rw [← hw1]; exact below_alloc1 _ _
  have hx1 : w1.heap[w0.heap.size]? = some (.cells #[.bool f.x, .int .i64 f.i, .bool f.r, .int .i64 f.n, .slice f.a f.m f.c] 30) := by rw [← hw1]; exact World.alloc_heap_new _ _
  rw [hw1]
  clear hw1
  have hT1 := below_then hT0 hB1
  have hZ1 := below_then hZ0 hB1
  clear hZ0
  have hn1 := block_below hB1 hn0
  have hr1 := block_below hB1 hr0
  have hp1 := block_below hB1 hp0
  clear hT0 hn0 hr0 hp0  hB1
  refine (without_c (n := gm) ((h.g.gap (w0.heap.size + 1)).to hT1) (fun b hb => gap_up hP (by have := hT0_.out; omega) b (by have h1 := hZ1.size; have := (Array.getElem?_eq_some_iff.1 hx1).1; omega)) 0 h1 m Hm.out (by omega) Gs HGs.out).mono ?_
  rintro e w2 ⟨A2, c2, rfl, hs_, hB2⟩
  have hT2 := below_then hT1 hB2
  have hZ2 := below_then hZ1 hB2
  clear hZ1
  have hn2 := block_below hB2 hn1
  have hr2 := block_below hB2 hr1
  have hp2 := block_below hB2 hp1
  have hx2 := block_below hB2 hx1
  clear hT1 hn1 hr1 hp1 hx1  hB2
  have hs2 := hs_
  clear hs_
  obtain ⟨⟨nc0, nc1, nc2, nc3, nc4, nc5, nc6⟩, nf0, nf1, nf2, nf3, nf4, nf5, nf6⟩ := cells7 hn2
  obtain ⟨⟨rc0, rc1, rc2, rc3, rc4, rc5, rc6⟩, rf0, rf1, rf2, rf3, rf4, rf5, rf6⟩ := cells7 hr2
  obtain ⟨⟨pc0, pc1, pc2, pc3, pc4⟩, pf0, pf1, pf2, pf3, pf4⟩ := cells5 hp2
  obtain ⟨xc0, xc1, xc2, xc3, xc4⟩ := cells5' hx2
  go_wp2_with fail
  clear nc0 nc1 nc2 nc3 nc4 nc5 nc6 nf0 nf1 nf2 nf3 nf4 nf5 nf6 rc0 rc1 rc2 rc3 rc4 rc5 rc6 rf0 rf1 rf2 rf3 rf4 rf5 rf6 pc0 pc1 pc2 pc3 pc4 pf0 pf1 pf2 pf3 pf4 xc0 xc1 xc2 xc3 xc4
  have hsz := Hs0.out
  obtain ⟨w3, hw3⟩ : ∃ w_, w2.setCell ⟨w.heap.size, 6, none⟩ (.slice A2 m c2) = w_ := ⟨_, rfl⟩
  have hG3 : w2.grownBy w3 (some w.heap.size) := by rw [← hw3]; exact grown_setAt _ _ _ _
  have hT3 := below_g hT2 hG3 (by omega)
  have hn3 : w3.heap[w.heap.size]? = some (.cells #[.slice qa qm qc, .slice la lm lc, .int .i64 kk.t, .int .i64 kk.r, .int .i64 kk.s, .int .i64 kk.q, .slice A2 m c2] 27) := by rw [← hw3]; exact set6_obj7 hn2 _
  have hr3 := other_g hG3 hr2 (by omega)
  have hp3 := other_g hG3 hp2 (by omega)
  have hx3 := other_g hG3 hx2 (by omega)
  have hs3 := FSl.grow hs2 hG3 (gap_not (by omega) (by omega))
  rw [hw3]
  clear hw3 hG3 hT2 hn2 hr2 hp2 hx2 hs2
  clear hsz
  have hsz := Hs0.out
  have Hn_ := Lib.hid (show w.heap.size ≠ w.heap.size + 1 by omega)
  have Hx_ := Lib.hid (show w0.heap.size ≠ w.heap.size + 1 by omega)
  have Hp_ := Lib.hid (show w.heap.size + 1 + 1 ≠ w.heap.size + 1 by omega)
  have Hn2_ := Lib.hid (show w.heap.size ≠ w.heap.size + 1 + 1 by omega)
  have Hx2_ := Lib.hid (show w0.heap.size ≠ w.heap.size + 1 + 1 by omega)
  have Hr2_ := Lib.hid (show w.heap.size + 1 ≠ w.heap.size + 1 + 1 by omega)
  have Hgap_ := Lib.hid (show w.heap.size + 1 < w0.heap.size + 1 ∧ w.heap.size + 1 + 1 < w0.heap.size + 1 by omega)
  clear hsz
  refine wp_region_held_drew (S := fun W => (W.cell? ⟨w.heap.size, 0, none⟩ = some (.slice qa qm qc) ∧ W.cell? ⟨w.heap.size, 1, none⟩ = some (.slice la lm lc) ∧ W.cell? ⟨w.heap.size, 2, none⟩ = some (.int .i64 kk.t) ∧ W.cell? ⟨w.heap.size, 3, none⟩ = some (.int .i64 kk.r) ∧ W.cell? ⟨w.heap.size, 4, none⟩ = some (.int .i64 kk.s) ∧ W.cell? ⟨w.heap.size, 5, none⟩ = some (.int .i64 kk.q) ∧ W.cell? ⟨w.heap.size, 6, none⟩ = some (.slice A2 m c2)) ∧ (W.cell? ⟨w0.heap.size, 0, none⟩ = some (.bool f.x) ∧ W.cell? ⟨w0.heap.size, 1, none⟩ = some (.int .i64 f.i) ∧ W.cell? ⟨w0.heap.size, 2, none⟩ = some (.bool f.r) ∧ W.cell? ⟨w0.heap.size, 3, none⟩ = some (.int .i64 f.n) ∧ W.cell? ⟨w0.heap.size, 4, none⟩ = some (.slice f.a f.m f.c))) (by kernel_rfl) (by exact ⟨cells7' (block_below (below_drew1 _) hn3), cells5' (block_below (below_drew1 _) hx3)⟩) (fun hHeld_ => ?_)
  refine wpAnyH_take' (i := 0) (v := ?v0_tk22123) 20 rfl rfl (by kernel_rfl) (by kernel_rfl) (by kernel_rfl) (fun _ _ _ h => h) (Or.inl ⟨by kernel_rfl, ?hy0_tk22123⟩) (by assumption) ?rest0_tk22123
  case hy0_tk22123 => (intro W_ hS_; (try dsimp only at hS_); go_simp; (try (with_reducible rfl)))
  try simp only [Act.put, List.setIfInBounds_toArray, List.set_cons_zero, List.set_cons_succ]
  refine wpAnyH_take' (i := 1) (v := ?v1_tk22123) 21 rfl rfl (by kernel_rfl) (by kernel_rfl) (by kernel_rfl) (fun _ _ _ h => h) (Or.inl ⟨by kernel_rfl, ?hy1_tk22123⟩) (by assumption) ?rest1_tk22123
  case hy1_tk22123 => (intro W_ hS_; (try dsimp only at hS_); go_simp; (try (with_reducible rfl)))
  try simp only [Act.put, List.setIfInBounds_toArray, List.set_cons_zero, List.set_cons_succ]
  refine wpAnyH_ready (rs := [2]) (by kernel_rfl) (by simp) ?_
  refine AllReadyH.cons rfl (fun K_ hK_ => ?_) AllReadyH.nil
  obtain ⟨⟨rc0, rc1, rc2, rc3, rc4, rc5, rc6⟩, rf0, rf1, rf2, rf3, rf4, rf5, rf6⟩ := cells7 hr3; go_simp; go_wp2_with fail; clear rc0 rc1 rc2 rc3 rc4 rc5 rc6 rf0 rf1 rf2 rf3 rf4 rf5 rf6
  refine hK_.out _ _ (by exact ⟨cells7' (block_below (below_drew1 _) (other_g (set7_grown w3 (w.heap.size + 1) (.slice qa qm qc) (.slice la lm lc) (.int .i64 kk.t) (.int .i64 kk.r) (.int .i64 kk.s) (.int .i64 kk.q) (.slice A2 m c2)) hn3 Hn_.out)), cells5' (block_below (below_drew1 _) (other_g (set7_grown w3 (w.heap.size + 1) (.slice qa qm qc) (.slice la lm lc) (.int .i64 kk.t) (.int .i64 kk.r) (.int .i64 kk.s) (.int .i64 kk.q) (.slice A2 m c2)) hx3 Hx_.out))⟩) (fun hHeld_2 => ?_)
  obtain ⟨wA, hwA⟩ : ∃ w_, set7 w3 (w.heap.size + 1) (.slice qa qm qc) (.slice la lm lc) (.int .i64 kk.t) (.int .i64 kk.r) (.int .i64 kk.s) (.int .i64 kk.q) (.slice A2 m c2) = w_ := ⟨_, rfl⟩
  have hGA : w3.grownBy wA (some (w.heap.size + 1)) := by rw [← hwA]; exact set7_grown _ _ _ _ _ _ _ _ _
  have hTA := below_g hT3 hGA (by omega)
  have hrA : wA.heap[w.heap.size + 1]? = some (.cells #[.slice qa qm qc, .slice la lm lc, .int .i64 kk.t, .int .i64 kk.r, .int .i64 kk.s, .int .i64 kk.q, .slice A2 m c2] 27) := by rw [← hwA]; exact set7_obj hr3 _ _ _ _ _ _ _
  have hnA := other_g hGA hn3 Hn_.out
  have hxA := other_g hGA hx3 Hx_.out
  have hpA : wA.heap[w.heap.size + 1 + 1]? = some (.cells #[.bool false, .int .i64 0, .bool false, .int .i64 0, .slice none 0 0] 30) := other_g hGA hp3 Hp_.out
  have hsA := hs3.grow hGA (gap_not (by omega) Hgap_.out.1)
  unfold set7 at hwA
  rw [hwA] at hHeld_2 ⊢
  clear hwA hn3 hr3 hx3 hp3 hs3 hT3 hGA
  clear hK_
  try simp only [Act.put, List.setIfInBounds_toArray, List.set_cons_zero, List.set_cons_succ]
  refine wpAnyH_ready (rs := [3]) (by kernel_rfl) (by simp) ?_
  refine AllReadyH.cons rfl (fun K_ hK_ => ?_) AllReadyH.nil
  obtain ⟨⟨pc0, pc1, pc2, pc3, pc4⟩, pf0, pf1, pf2, pf3, pf4⟩ := cells5 hpA; go_simp; go_wp2_with fail; clear pc0 pc1 pc2 pc3 pc4 pf0 pf1 pf2 pf3 pf4
  refine hK_.out _ _ (by exact ⟨cells7' (block_below (below_drew1 _) (other_g (set5_grown wA (w.heap.size + 1 + 1) (.bool f.x) (.int .i64 f.i) (.bool f.r) (.int .i64 f.n) (.slice f.a f.m f.c)) hnA Hn2_.out)), cells5' (block_below (below_drew1 _) (other_g (set5_grown wA (w.heap.size + 1 + 1) (.bool f.x) (.int .i64 f.i) (.bool f.r) (.int .i64 f.n) (.slice f.a f.m f.c)) hxA Hx2_.out))⟩) (fun hHeld_3 => ?_)
  clear hK_
  try simp only [Act.put, List.setIfInBounds_toArray, List.set_cons_zero, List.set_cons_succ]
  refine wpAnyH_take' (i := 4) (v := ?v4_tk22123) 4 rfl rfl (by kernel_rfl) (by kernel_rfl) (by kernel_rfl) (fun _ _ _ h => h) (Or.inl ⟨by kernel_rfl, ?hy4_tk22123⟩) (by assumption) ?rest4_tk22123
  case hy4_tk22123 => (intro W_ hS_; (try dsimp only at hS_); go_simp; (try (with_reducible rfl)))
  try simp only [Act.put, List.setIfInBounds_toArray, List.set_cons_zero, List.set_cons_succ]
  refine wpAnyH_done (by kernel_rfl) ?_ _
  go_wp2_with fail
  exact bodyPost_ret (v := .tuple #[NV.v ⟨qa, qm, qc, la, lm, lc, kk, A2, m, c2⟩, f.v, .bool true]) (results_nf1 (n := ⟨qa, qm, qc, la, lm, lc, kk, A2, m, c2⟩) (f := f) (u := .bool true) rfl _ rfl rfl rfl (block_below (below_drew1 _) (other_g (set5_grown wA (w.heap.size + 1 + 1) (.bool f.x) (.int .i64 f.i) (.bool f.r) (.int .i64 f.n) (.slice f.a f.m f.c)) hrA Hr2_.out)) (block_below (below_drew1 _) (set5_obj hpA _ _ _ _ _))) rfl ⟨⟨qa, qm, qc, la, lm, lc, kk, A2, m, c2⟩, f, rfl, ⟨h.q.to (below_then (below_g hTA (set5_grown wA (w.heap.size + 1 + 1) (.bool f.x) (.int .i64 f.i) (.bool f.r) (.int .i64 f.n) (.slice f.a f.m f.c)) (by omega)) (below_drew1 _)), h.l.to (below_then (below_g hTA (set5_grown wA (w.heap.size + 1 + 1) (.bool f.x) (.int .i64 f.i) (.bool f.r) (.int .i64 f.n) (.slice f.a f.m f.c)) (by omega)) (below_drew1 _)), h.k, ((hsA.grow (set5_grown wA (w.heap.size + 1 + 1) (.bool f.x) (.int .i64 f.i) (.bool f.r) (.int .i64 f.n) (.slice f.a f.m f.c)) (gap_not (by omega) Hgap_.out.2)).ungap).to (below_drew1 _)⟩, hf.to (below_then (below_g hTA (set5_grown wA (w.heap.size + 1 + 1) (.bool f.x) (.int .i64 f.i) (.bool f.r) (.int .i64 f.n) (.slice f.a f.m f.c)) (by omega)) (below_drew1 _)), (below_then (below_g hTA (set5_grown wA (w.heap.size + 1 + 1) (.bool f.x) (.int .i64 f.i) (.bool f.r) (.int .i64 f.n) (.slice f.a f.m f.c)) (by omega)) (below_drew1 _))⟩

end Go.Proofs.Ytlbgilbigcnleaa
