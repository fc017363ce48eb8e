/-
  Send: the document.
-/
import Derived.Test.YtlbgilbigcnleaaNeA
import Derived.Test.YtlbgilbigcnleaaNeG
namespace Go.Proofs.Ytlbgilbigcnleaa
open Go.RowKit
set_option linter.unusedVariables false
set_option linter.unusedSimpArgs false

theorem ups9 {a b w : World} {o : Obj} (h : Below (w.heap.size + 1) a b) : Below (w.alloc o).heap.size a b := by simpa using h

set_option maxRecDepth 100000 in
set_option maxHeartbeats 6000000 in
theorem refSend_0 {w : World} {P : Nat → Prop} {n : NV} {N : NC} {f : FV} {F : FC} (h : NIs w P n N) (hf : FIs w P f F) (hok : OkN N) (hP : ∀ b, w.heap.size ≤ b → P b) (hr : rightC F = true) (hs : N.k.s ≠ 3) (hl : N.q.length < 16) :
    Calls Try.prog 19 #[n.v, f.v] w fun e w' => ∃ n' : NV, e = .returned (.tuple #[n'.v, .int .i64 0]) ∧ NIs w' P n' ⟨N.q ++ [F], N.l, N.k, N.g⟩ ∧ Below w.heap.size w w' := by
  have hm := qm_le h hok
  have Hr := Lib.hid hr
  have hs3 : (n.k.s == 3) = false := by rw [h.k]; simpa using hs
  rw [h.q.len] at hl
  have i1 : ¬ (16 : Int) ≤ (n.qm : Int) := by omega
  obtain ⟨fs, hrow, his⟩ := h.q.row
  have Hfl := Lib.hid (show fs.length = n.qm from his.1.trans h.q.len)
  have Hds := Lib.hid (show FsIs w P (fs ++ [f]) (N.q ++ [F]) from his.append (FsIs.one hf))
  clear hr hs
  obtain ⟨w0, hw0⟩ : ∃ w0, (((w.alloc (.cells #[.slice n.qa n.qm n.qc, .slice n.la n.lm n.lc, .int .i64 n.k.t, .int .i64 n.k.r, .int .i64 n.k.s, .int .i64 n.k.q, .slice n.ga n.gm n.gc] 27)).alloc (.cells #[.bool f.x, .int .i64 f.i, .bool f.r, .int .i64 f.n, .slice f.a f.m f.c] 30)).alloc (.cells #[.slice none 0 0, .slice none 0 0, .int .i64 0, .int .i64 0, .int .i64 0, .int .i64 0, .slice none 0 0] 27)) = w0 := ⟨_, rfl⟩
  have hT0 : Below w.heap.size w w0 := by rw [← hw0]; exact below_then (below_then (below_alloc1 _ _) (below_alloc1 _ _)) (below_alloc1 _ _)
  have hn0 : w0.heap[w.heap.size]? = some (.cells #[.slice n.qa n.qm n.qc, .slice n.la n.lm n.lc, .int .i64 n.k.t, .int .i64 n.k.r, .int .i64 n.k.s, .int .i64 n.k.q, .slice n.ga n.gm n.gc] 27) := by rw [← hw0]; exact block_below (below_alloc1 _ _) (block_below (below_alloc1 _ _) (World.alloc_heap_new _ _))
  have hf0 : w0.heap[(w.heap.size + 1)]? = some (.cells #[.bool f.x, .int .i64 f.i, .bool f.r, .int .i64 f.n, .slice f.a f.m f.c] 30) := by rw [← hw0]; exact block_below (below_alloc1 _ _) (alloc_at _ _ (by simp))
  have hr0 : w0.heap[(w.heap.size + 2)]? = some (.cells #[.slice none 0 0, .slice none 0 0, .int .i64 0, .int .i64 0, .int .i64 0, .int .i64 0, .slice none 0 0] 27) := by rw [← hw0]; exact alloc_at _ _ (by simp)
  have hs0 : w0.heap.size = w.heap.size + 3 := by rw [← hw0]; simp
  have Hs0 := Lib.hid hs0
  clear hs0
  obtain ⟨nc0, nc1, nc2, nc3, nc4, nc5, nc6⟩ := cells7' hn0
  obtain ⟨fc0, fc1, fc2, fc3, fc4⟩ := cells5' hf0
  obtain ⟨rc0, rc1, rc2, rc3, rc4, rc5, rc6⟩ := cells7' hr0
  go_enter Try.func19, Try.ntmps19
  go_wp2_with fail
  clear nc0 nc1 nc2 nc3 nc4 nc5 nc6 fc0 fc1 fc2 fc3 fc4 rc0 rc1 rc2 rc3 rc4 rc5 rc6
  clear hw0
  have hZ0 := Below.refl w0.heap.size w0
  refine (refFrRight_c (hf.to hT0) true Hr.out).mono ?_
  rintro e w1 ⟨rfl, hB1⟩
  have hT1 := below_then hT0 hB1
  have hZ1 := below_then hZ0 hB1
  clear hZ0
  have hn1 := block_below hB1 hn0
  have hf1 := block_below hB1 hf0
  have hr1 := block_below hB1 hr0
  clear hT0 hn0 hf0 hr0  hB1
  obtain ⟨nc0, nc1, nc2, nc3, nc4, nc5, nc6⟩ := cells7' hn1
  obtain ⟨fc0, fc1, fc2, fc3, fc4⟩ := cells5' hf1
  obtain ⟨rc0, rc1, rc2, rc3, rc4, rc5, rc6⟩ := cells7' hr1
  go_wp2_with fail
  clear nc0 nc1 nc2 nc3 nc4 nc5 nc6 fc0 fc1 fc2 fc3 fc4 rc0 rc1 rc2 rc3 rc4 rc5 rc6
  have hBd0 : Below w1.heap.size w1 (w1.alloc (.cells #[] 30)).drew := below_then (below_alloc1 _ _) (below_drew1 _)
  have hBd05 : Below w1.heap.size w1 ((w1.alloc (.cells #[] 30)).alloc (.cells #[.bool f.x, .int .i64 f.i, .bool f.r, .int .i64 f.n, .slice f.a f.m f.c] 30)).drew := below_then (below_then (below_alloc1 _ _) (below_alloc1 _ _)) (below_drew1 _)
  have hBd5 : Below w1.heap.size w1 (w1.alloc (.cells #[.bool f.x, .int .i64 f.i, .bool f.r, .int .i64 f.n, .slice f.a f.m f.c] 30)).drew := below_then (below_alloc1 _ _) (below_drew1 _)
  have hBd50 : Below w1.heap.size w1 ((w1.alloc (.cells #[.bool f.x, .int .i64 f.i, .bool f.r, .int .i64 f.n, .slice f.a f.m f.c] 30)).alloc (.cells #[] 30)).drew := below_then (below_then (below_alloc1 _ _) (below_alloc1 _ _)) (below_drew1 _)
  have hlr40 := (Array.getElem?_eq_some_iff.1 hr1).1
  have hle40 := hT1.size
  refine wp_region_till 8 (S := fun W => (W.cell? ⟨w.heap.size, 0, none⟩ = some (.slice n.qa n.qm n.qc) ∧ W.cell? ⟨w.heap.size, 1, none⟩ = some (.slice n.la n.lm n.lc) ∧ W.cell? ⟨w.heap.size, 2, none⟩ = some (.int .i64 n.k.t) ∧ W.cell? ⟨w.heap.size, 3, none⟩ = some (.int .i64 n.k.r) ∧ W.cell? ⟨w.heap.size, 4, none⟩ = some (.int .i64 n.k.s) ∧ W.cell? ⟨w.heap.size, 5, none⟩ = some (.int .i64 n.k.q) ∧ W.cell? ⟨w.heap.size, 6, none⟩ = some (.slice n.ga n.gm n.gc)) ∧ (W.cell? ⟨(w.heap.size + 1), 0, none⟩ = some (.bool f.x) ∧ W.cell? ⟨(w.heap.size + 1), 1, none⟩ = some (.int .i64 f.i) ∧ W.cell? ⟨(w.heap.size + 1), 2, none⟩ = some (.bool f.r) ∧ W.cell? ⟨(w.heap.size + 1), 3, none⟩ = some (.int .i64 f.n) ∧ W.cell? ⟨(w.heap.size + 1), 4, none⟩ = some (.slice f.a f.m f.c))) (by kernel_rfl) (by exact ⟨cells7' (block_below (below_drew1 _) hn1), cells5' (block_below (below_drew1 _) hf1)⟩) (fun hHeld_ => ?_)
  refine wpTill_take (i := 1) (v := ?vT1_1_0_) 21 rfl rfl (by kernel_rfl) (by kernel_rfl) (by kernel_rfl) (fun _ _ _ h => h) (Or.inl ⟨by kernel_rfl, ?hyT1_1_0_⟩) (by assumption) (by kernel_rfl) ?restT1_1_0_
  case hyT1_1_0_ => (intro W_ hS_; (try dsimp only at hS_); go_simp; (try (with_reducible rfl)))
  try simp only [Act.put, List.setIfInBounds_toArray, List.set_cons_zero, List.set_cons_succ]
  refine wpTill_take (i := 2) (v := ?vT1_2_0_) 22 rfl rfl (by kernel_rfl) (by kernel_rfl) (by kernel_rfl) (fun _ _ _ h => h) (Or.inl ⟨by kernel_rfl, ?hyT1_2_0_⟩) (by assumption) (by kernel_rfl) ?restT1_2_0_
  case hyT1_2_0_ => (intro W_ hS_; (try dsimp only at hS_); go_simp; (try (with_reducible rfl)))
  try simp only [Act.put, List.setIfInBounds_toArray, List.set_cons_zero, List.set_cons_succ]
  refine wpTill_take (i := 4) (v := ?vT1_4_0_) 24 rfl rfl (by kernel_rfl) (by kernel_rfl) (by kernel_rfl) (fun _ _ _ h => h) (Or.inl ⟨by kernel_rfl, ?hyT1_4_0_⟩) (by assumption) (by kernel_rfl) ?restT1_4_0_
  case hyT1_4_0_ => (intro W_ hS_; (try dsimp only at hS_); go_simp; (try (with_reducible rfl)))
  try simp only [Act.put, List.setIfInBounds_toArray, List.set_cons_zero, List.set_cons_succ]
  refine wpTill_ready (rs := [0, 5]) (by kernel_rfl) (by simp) ?_
  refine (AllTill.cons rfl (fun K_ hK_ => ?_) (AllTill.cons rfl (fun K_ hK_ => ?_) AllTill.nil))
  · go_simp
    go_wp2_with fail
    refine hK_.out _ _ (fun _ => by exact ⟨cells7' (block_below hBd0 hn1), cells5' (block_below hBd0 hf1)⟩) (fun hHeld_0_0 => ?_)
    replace hHeld_0_0 := hHeld_0_0 (by decide)
    clear hK_
    try simp only [Act.put, List.setIfInBounds_toArray, List.set_cons_zero, List.set_cons_succ]
    refine wpTill_ready (rs := [3, 5]) (by kernel_rfl) (by simp) ?_
    refine (AllTill.cons rfl (fun K_ hK_ => ?_) (AllTill.cons rfl (fun K_ hK_ => ?_) AllTill.nil))
    · refine step_append_fr rfl _ _ rfl w1.heap.size _ 0 [] rfl (own_to (fown_empty w1 _ _ rfl (Nat.le_refl _)) (below_drew1 _)) _ _ _ _ fs rfl Hfl.out (hrow.below (below_then hT1 hBd0)) (by omega) hBd0.size 23 rfl ?_
      intro A5 c5 w5 hown5 hc5 hB5
      simp only [Nat.zero_add, List.nil_append] at hown5 hc5 ⊢
      have hBk5 : Below w1.heap.size w1 w5 := hBd0.trans hB5
      refine hK_.out _ _ (fun _ => by exact ⟨cells7' (block_below hBk5 hn1), cells5' (block_below hBk5 hf1)⟩) (fun hHeld_3_1 => ?_)
      replace hHeld_3_1 := hHeld_3_1 (by decide)
      clear hK_
      try simp only [Act.put, List.setIfInBounds_toArray, List.set_cons_zero, List.set_cons_succ]
      refine wpTill_ready (rs := [5]) (by kernel_rfl) (by simp) ?_
      refine (AllTill.cons rfl (fun K_ hK_ => ?_) AllTill.nil)
      go_simp
      go_wp2_with fail
      refine hK_.out _ _ (fun _ => by exact ⟨cells7' (block_below (below_then hBk5 (below_alloc1 _ _)) hn1), cells5' (block_below (below_then hBk5 (below_alloc1 _ _)) hf1)⟩) (fun hHeld_5_2 => ?_)
      replace hHeld_5_2 := hHeld_5_2 (by decide)
      clear hK_
      try simp only [Act.put, List.setIfInBounds_toArray, List.set_cons_zero, List.set_cons_succ]
      refine wpTill_ready (rs := [6]) (by kernel_rfl) (by simp) ?_
      refine (AllTill.cons rfl (fun K_ hK_ => ?_) AllTill.nil)
      refine step_append_fr rfl _ _ rfl w1.heap.size _ n.qm fs rfl (own_to hown5 (below_alloc1 _ _)) _ _ _ _ [f] rfl rfl (FRow.lit1 w5 f rfl) (by omega) (below_then hBk5 (below_alloc1 _ _)).size 26 rfl ?_
      intro A6 c6 w6 hown6 hc6 hB6
      have hBk6 : Below w1.heap.size w1 w6 := (below_then hBk5 (below_alloc1 _ _)).trans hB6
      refine hK_.out _ _ (fun _ => by exact ⟨cells7' (block_below hBk6 hn1), cells5' (block_below hBk6 hf1)⟩) (fun hHeld_6_3 => ?_)
      replace hHeld_6_3 := hHeld_6_3 (by decide)
      clear hK_
      try simp only [Act.put, List.setIfInBounds_toArray, List.set_cons_zero, List.set_cons_succ]
      refine wpTill_take (i := 7) (v := ?vT1_7_4_0_3_5_6) 27 rfl rfl (by kernel_rfl) (by kernel_rfl) (by kernel_rfl) (fun _ _ _ h => h) (Or.inl ⟨by kernel_rfl, ?hyT1_7_4_0_3_5_6⟩) (by assumption) (by kernel_rfl) ?restT1_7_4_0_3_5_6
      case hyT1_7_4_0_3_5_6 => (intro W_ hS_; (try dsimp only at hS_); go_simp; (try (with_reducible rfl)))
      try simp only [Act.put, List.setIfInBounds_toArray, List.set_cons_zero, List.set_cons_succ]
      refine wpTill_ready (rs := [8]) (by kernel_rfl) (by simp) ?_
      refine (AllTill.cons rfl (fun K_ hK_ => ?_) AllTill.nil)
      obtain ⟨⟨nc0, nc1, nc2, nc3, nc4, nc5, nc6⟩, nf0, nf1, nf2, nf3, nf4, nf5, nf6⟩ := cells7 (block_below hBk6 hn1)
      go_simp
      go_wp2_with fail
      clear nc0 nc1 nc2 nc3 nc4 nc5 nc6 nf0 nf1 nf2 nf3 nf4 nf5 nf6
      refine hK_.out _ _ (fun h_ => absurd rfl h_) (fun hHeld_8_4 => ?_)
      clear hK_
      try simp only [Act.put, List.setIfInBounds_toArray, List.set_cons_zero, List.set_cons_succ]
      refine wpTill_done (by kernel_rfl) ?_ _
      have hT40 := below_then hT1 hBk6
      have hn40 := block_below hBk6 hn1
      have hf40 := block_below hBk6 hf1
      have hr40 := block_below hBk6 hr1
      have hs40 : FSl w6 (Gap P w.heap.size (w.heap.size + 3)) A6 (n.qm + 1) c6 (N.q ++ [F]) := FSl.own hown6 ((Hds.out.mono (fun b hb hp => ⟨hp, .inl hb⟩)).to hT40) (by omega) (fun b hb => gap_up hP (by omega) b (by omega))
      clear hown5 hown6 hc5 hc6 hB5 hB6 hBk5 hBk6 hBd0 hBd5 hBd05 hBd50 hle40 hlr40 hn1 hf1 hr1 hT1
      obtain ⟨w41, hw41⟩ : ∃ w_, w6.setCell ⟨w.heap.size, 0, none⟩ (.slice A6 (n.qm + 1) c6) = w_ := ⟨_, rfl⟩
      have hG41 : w6.grownBy w41 (some w.heap.size) := by rw [← hw41]; exact grown_setAt _ _ _ _
      have hT41 := below_g hT40 hG41 (by omega)
      have hn41 : w41.heap[w.heap.size]? = some (.cells #[.slice A6 (n.qm + 1) c6, .slice n.la n.lm n.lc, .int .i64 n.k.t, .int .i64 n.k.r, .int .i64 n.k.s, .int .i64 n.k.q, .slice n.ga n.gm n.gc] 27) := by rw [← hw41]; exact set0_obj7 hn40 _
      have hf41 := other_g hG41 hf40 (by omega)
      have hr41 := other_g hG41 hr40 (by omega)
      have hs41 := FSl.grow hs40 hG41 (gap_not (by omega) (by omega))
      rw [hw41]
      clear hw41 hG41 hT40 hn40 hf40 hr40 hs40
      obtain ⟨nc0, nc1, nc2, nc3, nc4, nc5, nc6⟩ := cells7' hn41
      obtain ⟨fc0, fc1, fc2, fc3, fc4⟩ := cells5' hf41
      obtain ⟨⟨rc0, rc1, rc2, rc3, rc4, rc5, rc6⟩, rf0, rf1, rf2, rf3, rf4, rf5, rf6⟩ := cells7 hr41
      go_wp2_with fail
      clear nc0 nc1 nc2 nc3 nc4 nc5 nc6 fc0 fc1 fc2 fc3 fc4 rc0 rc1 rc2 rc3 rc4 rc5 rc6 rf0 rf1 rf2 rf3 rf4 rf5 rf6
      exact bodyPost_ret (v := .tuple #[NV.v ⟨A6, n.qm + 1, c6, n.la, n.lm, n.lc, n.k, n.ga, n.gm, n.gc⟩, .int .i64 0]) (results_n1 (n := ⟨A6, n.qm + 1, c6, n.la, n.lm, n.lc, n.k, n.ga, n.gm, n.gc⟩) (u := .int .i64 0) rfl _ rfl rfl (set7_obj hr41 _ _ _ _ _ _ _)) rfl (⟨⟨A6, n.qm + 1, c6, n.la, n.lm, n.lc, n.k, n.ga, n.gm, n.gc⟩, rfl, ⟨(hs41.grow (set7_grown _ _ _ _ _ _ _ _ _) (gap_not (by omega) (by omega))).ungap, h.l.to (below_g hT41 (set7_grown _ _ _ _ _ _ _ _ _) (by omega)), h.k, h.g.to (below_g hT41 (set7_grown _ _ _ _ _ _ _ _ _) (by omega))⟩, (below_g hT41 (set7_grown _ _ _ _ _ _ _ _ _) (by omega))⟩)
    · go_simp
      go_wp2_with fail
      refine hK_.out _ _ (fun _ => by exact ⟨cells7' (block_below hBd05 hn1), cells5' (block_below hBd05 hf1)⟩) (fun hHeld_5_1 => ?_)
      replace hHeld_5_1 := hHeld_5_1 (by decide)
      clear hK_
      try simp only [Act.put, List.setIfInBounds_toArray, List.set_cons_zero, List.set_cons_succ]
      refine wpTill_ready (rs := [3]) (by kernel_rfl) (by simp) ?_
      refine (AllTill.cons rfl (fun K_ hK_ => ?_) AllTill.nil)
      refine step_append_frG rfl _ _ rfl w1.heap.size _ 0 [] rfl (own_to (fown_empty w1 _ _ rfl (Nat.le_refl _)) (below_then (below_alloc1 _ _) (below_drew1 _))) _ _ _ _ fs rfl Hfl.out (hrow.below (below_then hT1 hBd05)) (by omega) hBd05.size 23 rfl ?_
      intro A5 c5 w5 hown5 hc5 hG5 hB5
      simp only [Nat.zero_add, List.nil_append] at hown5 hc5 ⊢
      have hBk5 : Below w1.heap.size w1 w5 := hBd05.trans hB5
      have hlit5 : FRow w5 w5.heap.size (some ⟨w1.heap.size + 1, 0, none⟩) [f] := frow_grow ((FRow.lit1 (w1.alloc (.cells #[] 30)) f (by simp)).to (below_drew1 _)) hG5 (fun _ ad e => by obtain rfl := Option.some.inj e; show w1.heap.size + 1 ≠ w1.heap.size; omega)
      refine hK_.out _ _ (fun _ => by exact ⟨cells7' (block_below hBk5 hn1), cells5' (block_below hBk5 hf1)⟩) (fun hHeld_3_2 => ?_)
      replace hHeld_3_2 := hHeld_3_2 (by decide)
      clear hK_
      try simp only [Act.put, List.setIfInBounds_toArray, List.set_cons_zero, List.set_cons_succ]
      refine wpTill_ready (rs := [6]) (by kernel_rfl) (by simp) ?_
      refine (AllTill.cons rfl (fun K_ hK_ => ?_) AllTill.nil)
      refine step_append_fr rfl _ _ rfl w1.heap.size _ n.qm fs rfl hown5 _ _ _ _ [f] rfl rfl hlit5 (by omega) hBk5.size 26 rfl ?_
      intro A6 c6 w6 hown6 hc6 hB6
      have hBk6 : Below w1.heap.size w1 w6 := hBk5.trans hB6
      refine hK_.out _ _ (fun _ => by exact ⟨cells7' (block_below hBk6 hn1), cells5' (block_below hBk6 hf1)⟩) (fun hHeld_6_3 => ?_)
      replace hHeld_6_3 := hHeld_6_3 (by decide)
      clear hK_
      try simp only [Act.put, List.setIfInBounds_toArray, List.set_cons_zero, List.set_cons_succ]
      refine wpTill_take (i := 7) (v := ?vT1_7_4_0_5_3_6) 27 rfl rfl (by kernel_rfl) (by kernel_rfl) (by kernel_rfl) (fun _ _ _ h => h) (Or.inl ⟨by kernel_rfl, ?hyT1_7_4_0_5_3_6⟩) (by assumption) (by kernel_rfl) ?restT1_7_4_0_5_3_6
      case hyT1_7_4_0_5_3_6 => (intro W_ hS_; (try dsimp only at hS_); go_simp; (try (with_reducible rfl)))
      try simp only [Act.put, List.setIfInBounds_toArray, List.set_cons_zero, List.set_cons_succ]
      refine wpTill_ready (rs := [8]) (by kernel_rfl) (by simp) ?_
      refine (AllTill.cons rfl (fun K_ hK_ => ?_) AllTill.nil)
      obtain ⟨⟨nc0, nc1, nc2, nc3, nc4, nc5, nc6⟩, nf0, nf1, nf2, nf3, nf4, nf5, nf6⟩ := cells7 (block_below hBk6 hn1)
      go_simp
      go_wp2_with fail
      clear nc0 nc1 nc2 nc3 nc4 nc5 nc6 nf0 nf1 nf2 nf3 nf4 nf5 nf6
      refine hK_.out _ _ (fun h_ => absurd rfl h_) (fun hHeld_8_4 => ?_)
      clear hK_
      try simp only [Act.put, List.setIfInBounds_toArray, List.set_cons_zero, List.set_cons_succ]
      refine wpTill_done (by kernel_rfl) ?_ _
      have hT40 := below_then hT1 hBk6
      have hn40 := block_below hBk6 hn1
      have hf40 := block_below hBk6 hf1
      have hr40 := block_below hBk6 hr1
      have hs40 : FSl w6 (Gap P w.heap.size (w.heap.size + 3)) A6 (n.qm + 1) c6 (N.q ++ [F]) := FSl.own hown6 ((Hds.out.mono (fun b hb hp => ⟨hp, .inl hb⟩)).to hT40) (by omega) (fun b hb => gap_up hP (by omega) b (by omega))
      clear hown5 hown6 hc5 hc6 hB5 hB6 hBk5 hBk6 hBd0 hBd5 hBd05 hBd50 hle40 hlr40 hn1 hf1 hr1 hT1
      obtain ⟨w41, hw41⟩ : ∃ w_, w6.setCell ⟨w.heap.size, 0, none⟩ (.slice A6 (n.qm + 1) c6) = w_ := ⟨_, rfl⟩
      have hG41 : w6.grownBy w41 (some w.heap.size) := by rw [← hw41]; exact grown_setAt _ _ _ _
      have hT41 := below_g hT40 hG41 (by omega)
      have hn41 : w41.heap[w.heap.size]? = some (.cells #[.slice A6 (n.qm + 1) c6, .slice n.la n.lm n.lc, .int .i64 n.k.t, .int .i64 n.k.r, .int .i64 n.k.s, .int .i64 n.k.q, .slice n.ga n.gm n.gc] 27) := by rw [← hw41]; exact set0_obj7 hn40 _
      have hf41 := other_g hG41 hf40 (by omega)
      have hr41 := other_g hG41 hr40 (by omega)
      have hs41 := FSl.grow hs40 hG41 (gap_not (by omega) (by omega))
      rw [hw41]
      clear hw41 hG41 hT40 hn40 hf40 hr40 hs40
      obtain ⟨nc0, nc1, nc2, nc3, nc4, nc5, nc6⟩ := cells7' hn41
      obtain ⟨fc0, fc1, fc2, fc3, fc4⟩ := cells5' hf41
      obtain ⟨⟨rc0, rc1, rc2, rc3, rc4, rc5, rc6⟩, rf0, rf1, rf2, rf3, rf4, rf5, rf6⟩ := cells7 hr41
      go_wp2_with fail
      clear nc0 nc1 nc2 nc3 nc4 nc5 nc6 fc0 fc1 fc2 fc3 fc4 rc0 rc1 rc2 rc3 rc4 rc5 rc6 rf0 rf1 rf2 rf3 rf4 rf5 rf6
      exact bodyPost_ret (v := .tuple #[NV.v ⟨A6, n.qm + 1, c6, n.la, n.lm, n.lc, n.k, n.ga, n.gm, n.gc⟩, .int .i64 0]) (results_n1 (n := ⟨A6, n.qm + 1, c6, n.la, n.lm, n.lc, n.k, n.ga, n.gm, n.gc⟩) (u := .int .i64 0) rfl _ rfl rfl (set7_obj hr41 _ _ _ _ _ _ _)) rfl (⟨⟨A6, n.qm + 1, c6, n.la, n.lm, n.lc, n.k, n.ga, n.gm, n.gc⟩, rfl, ⟨(hs41.grow (set7_grown _ _ _ _ _ _ _ _ _) (gap_not (by omega) (by omega))).ungap, h.l.to (below_g hT41 (set7_grown _ _ _ _ _ _ _ _ _) (by omega)), h.k, h.g.to (below_g hT41 (set7_grown _ _ _ _ _ _ _ _ _) (by omega))⟩, (below_g hT41 (set7_grown _ _ _ _ _ _ _ _ _) (by omega))⟩)
  · go_simp
    go_wp2_with fail
    refine hK_.out _ _ (fun _ => by exact ⟨cells7' (block_below hBd5 hn1), cells5' (block_below hBd5 hf1)⟩) (fun hHeld_5_0 => ?_)
    replace hHeld_5_0 := hHeld_5_0 (by decide)
    clear hK_
    try simp only [Act.put, List.setIfInBounds_toArray, List.set_cons_zero, List.set_cons_succ]
    refine wpTill_ready (rs := [0]) (by kernel_rfl) (by simp) ?_
    refine (AllTill.cons rfl (fun K_ hK_ => ?_) AllTill.nil)
    go_simp
    go_wp2_with fail
    refine hK_.out _ _ (fun _ => by exact ⟨cells7' (block_below hBd50 hn1), cells5' (block_below hBd50 hf1)⟩) (fun hHeld_0_1 => ?_)
    replace hHeld_0_1 := hHeld_0_1 (by decide)
    clear hK_
    try simp only [Act.put, List.setIfInBounds_toArray, List.set_cons_zero, List.set_cons_succ]
    refine wpTill_ready (rs := [3]) (by kernel_rfl) (by simp) ?_
    refine (AllTill.cons rfl (fun K_ hK_ => ?_) AllTill.nil)
    refine step_append_fr rfl _ _ rfl (w1.heap.size + 1) _ 0 [] rfl (own_to (fown_empty (w1.alloc (.cells #[.bool f.x, .int .i64 f.i, .bool f.r, .int .i64 f.n, .slice f.a f.m f.c] 30)) _ _ (by simp) (by simp)) (below_drew1 _)) _ _ _ _ fs rfl Hfl.out (hrow.below (below_then hT1 hBd50)) (by omega) (by simp) 23 rfl ?_
    intro A5 c5 w5 hown5 hc5 hB5
    simp only [Nat.zero_add, List.nil_append] at hown5 hc5 ⊢
    have hBk5 : Below w1.heap.size w1 w5 := hBd50.trans (hB5.mono (Nat.le_succ _))
    have hlit5 : FRow w5 w5.heap.size (some ⟨w1.heap.size, 0, none⟩) [f] := (FRow.lit1 w1 f rfl).to (Below.trans (below_then (below_alloc1 _ _) (below_drew1 _)) (ups9 hB5))
    refine hK_.out _ _ (fun _ => by exact ⟨cells7' (block_below hBk5 hn1), cells5' (block_below hBk5 hf1)⟩) (fun hHeld_3_2 => ?_)
    replace hHeld_3_2 := hHeld_3_2 (by decide)
    clear hK_
    try simp only [Act.put, List.setIfInBounds_toArray, List.set_cons_zero, List.set_cons_succ]
    refine wpTill_ready (rs := [6]) (by kernel_rfl) (by simp) ?_
    refine (AllTill.cons rfl (fun K_ hK_ => ?_) AllTill.nil)
    refine step_append_fr rfl _ _ rfl (w1.heap.size + 1) _ n.qm fs rfl hown5 _ _ _ _ [f] rfl rfl hlit5 (by omega) (by have := hB5.size; simp at this; omega) 26 rfl ?_
    intro A6 c6 w6 hown6 hc6 hB6
    have hBk6 : Below w1.heap.size w1 w6 := hBk5.trans (hB6.mono (Nat.le_succ _))
    refine hK_.out _ _ (fun _ => by exact ⟨cells7' (block_below hBk6 hn1), cells5' (block_below hBk6 hf1)⟩) (fun hHeld_6_3 => ?_)
    replace hHeld_6_3 := hHeld_6_3 (by decide)
    clear hK_
    try simp only [Act.put, List.setIfInBounds_toArray, List.set_cons_zero, List.set_cons_succ]
    refine wpTill_take (i := 7) (v := ?vT1_7_4_5_0_3_6) 27 rfl rfl (by kernel_rfl) (by kernel_rfl) (by kernel_rfl) (fun _ _ _ h => h) (Or.inl ⟨by kernel_rfl, ?hyT1_7_4_5_0_3_6⟩) (by assumption) (by kernel_rfl) ?restT1_7_4_5_0_3_6
    case hyT1_7_4_5_0_3_6 => (intro W_ hS_; (try dsimp only at hS_); go_simp; (try (with_reducible rfl)))
    try simp only [Act.put, List.setIfInBounds_toArray, List.set_cons_zero, List.set_cons_succ]
    refine wpTill_ready (rs := [8]) (by kernel_rfl) (by simp) ?_
    refine (AllTill.cons rfl (fun K_ hK_ => ?_) AllTill.nil)
    obtain ⟨⟨nc0, nc1, nc2, nc3, nc4, nc5, nc6⟩, nf0, nf1, nf2, nf3, nf4, nf5, nf6⟩ := cells7 (block_below hBk6 hn1)
    go_simp
    go_wp2_with fail
    clear nc0 nc1 nc2 nc3 nc4 nc5 nc6 nf0 nf1 nf2 nf3 nf4 nf5 nf6
    refine hK_.out _ _ (fun h_ => absurd rfl h_) (fun hHeld_8_4 => ?_)
    clear hK_
    try simp only [Act.put, List.setIfInBounds_toArray, List.set_cons_zero, List.set_cons_succ]
    refine wpTill_done (by kernel_rfl) ?_ _
    have hT40 := below_then hT1 hBk6
    have hn40 := block_below hBk6 hn1
    have hf40 := block_below hBk6 hf1
    have hr40 := block_below hBk6 hr1
    have hs40 : FSl w6 (Gap P w.heap.size (w.heap.size + 3)) A6 (n.qm + 1) c6 (N.q ++ [F]) := FSl.own hown6 ((Hds.out.mono (fun b hb hp => ⟨hp, .inl hb⟩)).to hT40) (by omega) (fun b hb => gap_up hP (by omega) b (by omega))
    clear hown5 hown6 hc5 hc6 hB5 hB6 hBk5 hBk6 hBd0 hBd5 hBd05 hBd50 hle40 hlr40 hn1 hf1 hr1 hT1
    obtain ⟨w41, hw41⟩ : ∃ w_, w6.setCell ⟨w.heap.size, 0, none⟩ (.slice A6 (n.qm + 1) c6) = w_ := ⟨_, rfl⟩
    have hG41 : w6.grownBy w41 (some w.heap.size) := by rw [← hw41]; exact grown_setAt _ _ _ _
    have hT41 := below_g hT40 hG41 (by omega)
    have hn41 : w41.heap[w.heap.size]? = some (.cells #[.slice A6 (n.qm + 1) c6, .slice n.la n.lm n.lc, .int .i64 n.k.t, .int .i64 n.k.r, .int .i64 n.k.s, .int .i64 n.k.q, .slice n.ga n.gm n.gc] 27) := by rw [← hw41]; exact set0_obj7 hn40 _
    have hf41 := other_g hG41 hf40 (by omega)
    have hr41 := other_g hG41 hr40 (by omega)
    have hs41 := FSl.grow hs40 hG41 (gap_not (by omega) (by omega))
    rw [hw41]
    clear hw41 hG41 hT40 hn40 hf40 hr40 hs40
    obtain ⟨nc0, nc1, nc2, nc3, nc4, nc5, nc6⟩ := cells7' hn41
    obtain ⟨fc0, fc1, fc2, fc3, fc4⟩ := cells5' hf41
    obtain ⟨⟨rc0, rc1, rc2, rc3, rc4, rc5, rc6⟩, rf0, rf1, rf2, rf3, rf4, rf5, rf6⟩ := cells7 hr41
    go_wp2_with fail
    clear nc0 nc1 nc2 nc3 nc4 nc5 nc6 fc0 fc1 fc2 fc3 fc4 rc0 rc1 rc2 rc3 rc4 rc5 rc6 rf0 rf1 rf2 rf3 rf4 rf5 rf6
    exact bodyPost_ret (v := .tuple #[NV.v ⟨A6, n.qm + 1, c6, n.la, n.lm, n.lc, n.k, n.ga, n.gm, n.gc⟩, .int .i64 0]) (results_n1 (n := ⟨A6, n.qm + 1, c6, n.la, n.lm, n.lc, n.k, n.ga, n.gm, n.gc⟩) (u := .int .i64 0) rfl _ rfl rfl (set7_obj hr41 _ _ _ _ _ _ _)) rfl (⟨⟨A6, n.qm + 1, c6, n.la, n.lm, n.lc, n.k, n.ga, n.gm, n.gc⟩, rfl, ⟨(hs41.grow (set7_grown _ _ _ _ _ _ _ _ _) (gap_not (by omega) (by omega))).ungap, h.l.to (below_g hT41 (set7_grown _ _ _ _ _ _ _ _ _) (by omega)), h.k, h.g.to (below_g hT41 (set7_grown _ _ _ _ _ _ _ _ _) (by omega))⟩, (below_g hT41 (set7_grown _ _ _ _ _ _ _ _ _) (by omega))⟩)

theorem refSend_c {w : World} {P : Nat → Prop} {n : NV} {N : NC} {f : FV} {F : FC} (h : NIs w P n N) (hf : FIs w P f F) (hok : OkN N) (hP : ∀ b, w.heap.size ≤ b → P b) (er : Int) (her : sendE N F = er) (M : NC) (hM : sendN N F = M) :
    Calls Try.prog 19 #[n.v, f.v] w fun e w' => ∃ n' : NV, e = .returned (.tuple #[n'.v, .int .i64 er]) ∧ NIs w' P n' M ∧ Below w.heap.size w w' := by
  subst her hM
  by_cases hr : rightC F = true
  · by_cases hs : N.k.s = 3
    · have e1 : sendE N F = 3 := by unfold sendE; rw [if_pos hr, if_pos hs]
      have e2 : sendN N F = N := by unfold sendN; rw [e1]; rfl
      rw [e1, e2]; exact refSend_3 h hf hok hP hr hs
    · by_cases hl : 16 ≤ N.q.length
      · have e1 : sendE N F = 2 := by unfold sendE; rw [if_pos hr, if_neg hs, if_pos hl]
        have e2 : sendN N F = N := by unfold sendN; rw [e1]; rfl
        rw [e1, e2]; exact refSend_2 h hf hok hP hr hs hl
      · have e1 : sendE N F = 0 := by unfold sendE; rw [if_pos hr, if_neg hs, if_neg hl]
        have e2 : sendN N F = ⟨N.q ++ [F], N.l, N.k, N.g⟩ := by unfold sendN; rw [e1]; rfl
        rw [e1, e2]; exact refSend_0 h hf hok hP hr hs (by omega)
  · have e1 : sendE N F = 90 := by unfold sendE; rw [if_neg hr]
    have e2 : sendN N F = N := by unfold sendN; rw [e1]; rfl
    rw [e1, e2]; exact refSend_90 h hf hok hP (by simpa using hr)

end Go.Proofs.Ytlbgilbigcnleaa
