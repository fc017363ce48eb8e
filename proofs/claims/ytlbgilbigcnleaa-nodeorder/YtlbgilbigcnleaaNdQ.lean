/-
  Next, Sent, Quiet, Take, Send, Heard: the program.
-/
import Derived.Test.YtlbgilbigcnleaaNdP
namespace Go.Proofs.Ytlbgilbigcnleaa
open Go.RowKit
set_option linter.unusedVariables false
set_option linter.unusedSimpArgs false

theorem any_c {w : World} {P P' : Nat → Prop} {A : Option Addr} {n c : Nat} {ls : List FL} {f : FV} {F : FC} (h : LSl w P A n c ls) (hf : FIs w P' f F) (hm : n ≤ 1000) (q : Bool) (hq : anyV ls F.x F.i = q) :
    Calls Try.prog 56 #[.slice A n c, f.v] w fun e w' => e = .returned (.bool q) ∧ Below w.heap.size w w' :=
  (any_any ls f n h.len A c w h.row hm).mono (by rintro e w' ⟨h1, h2⟩; exact ⟨by rw [h1, hf.x, hf.i, hq], h2⟩)
theorem okC_of_nis {w : World} {P : Nat → Prop} {n : NV} {N : NC} (h : NIs w P n N) (hok : OkN N) : OkC n.k := by rw [h.k]; exact hok.k
theorem qm_le {w : World} {P : Nat → Prop} {n : NV} {N : NC} (h : NIs w P n N) (hok : OkN N) : n.qm ≤ 16 := by rw [← h.q.len]; exact hok.qm
theorem gm_le {w : World} {P : Nat → Prop} {n : NV} {N : NC} (h : NIs w P n N) (hok : OkN N) : n.gm ≤ 64 := by rw [← h.g.len]; exact hok.gm
theorem lm_le {w : World} {P : Nat → Prop} {n : NV} {N : NC} (h : NIs w P n N) (hok : OkN N) : n.lm ≤ 8 := by rw [← h.l.len]; exact hok.lm

set_option maxRecDepth 100000 in
set_option maxHeartbeats 4000000 in
theorem quiet_c {w : World} {P : Nat → Prop} {n : NV} {N : NC} (h : NIs w P n N) (hok : OkN N) (M : NC) (hM : quietN N = M) :
    Calls Try.prog 27 #[n.v] w fun e w' => ∃ n' : NV, e = .returned n'.v ∧ NIs w' P n' M ∧ Below w.heap.size w w' := by
  subst hM
  have hk := okC_of_nis h hok
  obtain ⟨d, hd⟩ : ∃ d, stepV n.k 6 = d := ⟨_, rfl⟩
  have Hd := Lib.hid hd
  have HD := Lib.hid (show d = stepV N.k 6 by rw [← h.k, hd])
  clear hd
  obtain ⟨w0, hw0⟩ : ∃ w0, ((w.alloc (.cells #[.slice n.qa n.qm n.qc, .slice n.la n.lm n.lc, .int .i64 n.k.t, .int .i64 n.k.r, .int .i64 n.k.s, .int .i64 n.k.q, .slice n.ga n.gm n.gc] 27)).alloc (.cells #[.slice none 0 0, .slice none 0 0, .int .i64 0, .int .i64 0, .int .i64 0, .int .i64 0, .slice none 0 0] 27)) = w0 := ⟨_, rfl⟩
  have hT0 : Below w.heap.size w w0 := by rw [← hw0]; exact below_then (below_alloc1 _ _) (below_alloc1 _ _)
  have hn0 : w0.heap[w.heap.size]? = some (.cells #[.slice n.qa n.qm n.qc, .slice n.la n.lm n.lc, .int .i64 n.k.t, .int .i64 n.k.r, .int .i64 n.k.s, .int .i64 n.k.q, .slice n.ga n.gm n.gc] 27) := by rw [← hw0]; exact block_below (below_alloc1 _ _) (World.alloc_heap_new _ _)
  have hr0 : w0.heap[(w.heap.size + 1)]? = some (.cells #[.slice none 0 0, .slice none 0 0, .int .i64 0, .int .i64 0, .int .i64 0, .int .i64 0, .slice none 0 0] 27) := by rw [← hw0]; exact alloc_at _ _ (by simp)
  have hs0 : w0.heap.size = w.heap.size + 2 := by rw [← hw0]; simp
  have Hs0 := Lib.hid hs0
  clear hs0
  obtain ⟨nc0, nc1, nc2, nc3, nc4, nc5, nc6⟩ := cells7' hn0
  obtain ⟨rc0, rc1, rc2, rc3, rc4, rc5, rc6⟩ := cells7' hr0
  go_enter Try.func27, Try.ntmps27
  go_wp2_with fail
  clear nc0 nc1 nc2 nc3 nc4 nc5 nc6 rc0 rc1 rc2 rc3 rc4 rc5 rc6
  clear hw0
  have hZ0 := Below.refl w0.heap.size w0
  refine (counted_c n d 6 Hd.out hk w0).mono ?_
  rintro e w1 ⟨rfl, hB1⟩
  have hT1 := below_then hT0 hB1
  have hZ1 := below_then hZ0 hB1
  clear hZ0
  have hn1 := block_below hB1 hn0
  have hr1 := block_below hB1 hr0
  clear hT0 hn0 hr0  hB1
  obtain ⟨nc0, nc1, nc2, nc3, nc4, nc5, nc6⟩ := cells7' hn1
  obtain ⟨⟨rc0, rc1, rc2, rc3, rc4, rc5, rc6⟩, rf0, rf1, rf2, rf3, rf4, rf5, rf6⟩ := cells7 hr1
  go_wp2_with fail
  clear nc0 nc1 nc2 nc3 nc4 nc5 nc6 rc0 rc1 rc2 rc3 rc4 rc5 rc6 rf0 rf1 rf2 rf3 rf4 rf5 rf6
  exact bodyPost_ret (v := NV.v ⟨n.qa, n.qm, n.qc, n.la, n.lm, n.lc, d, n.ga, n.gm, n.gc⟩) (results_n (n := ⟨n.qa, n.qm, n.qc, n.la, n.lm, n.lc, d, n.ga, n.gm, n.gc⟩) rfl _ rfl (set7_obj hr1 _ _ _ _ _ _ _)) rfl (⟨⟨n.qa, n.qm, n.qc, n.la, n.lm, n.lc, d, n.ga, n.gm, n.gc⟩, rfl, ⟨h.q.to (below_g hT1 (set7_grown _ _ _ _ _ _ _ _ _) (by omega)), h.l.to (below_g hT1 (set7_grown _ _ _ _ _ _ _ _ _) (by omega)), HD.out, h.g.to (below_g hT1 (set7_grown _ _ _ _ _ _ _ _ _) (by omega))⟩, (below_g hT1 (set7_grown _ _ _ _ _ _ _ _ _) (by omega))⟩)

theorem fat_to {w w' : World} {a : Addr} {f : FV} (h : FAt w a f) (b : Below w.heap.size w w') : FAt w' a f := by
  obtain ⟨h0, h1, h2, h3, h4⟩ := h
  have hk : ∀ (p : Addr) (v : Value), w.cell? p = some v → w'.cell? p = some v := fun p v hp => (b.cell (World.block_lt_of_cell? _ _ hp)).trans hp
  exact ⟨hk _ _ h0, hk _ _ h1, hk _ _ h2, hk _ _ h3, hk _ _ h4⟩
set_option maxRecDepth 100000 in
set_option maxHeartbeats 4000000 in
theorem next_c {w : World} {P : Nat → Prop} {n : NV} {N : NC} (h : NIs w P n N) (hok : OkN N) (q : Bool) (hq : hasN N = q) (F : FC) (hF : nextF N = F) :
    Calls Try.prog 20 #[n.v] w fun e w' => ∃ f : FV, e = .returned (.tuple #[f.v, .bool q]) ∧ FIs w' P f F ∧ Below w.heap.size w w' := by
  have hm := qm_le h hok
  have Hok := Lib.hid hok
  cases q
  · skip
    obtain rfl : zeroF = F := by rw [← hF]; unfold nextF; rw [hq]; rfl
    have Hq := Lib.hid hq
    clear hq hF hok
    obtain ⟨w0, hw0⟩ : ∃ w0, ((w.alloc (.cells #[.slice n.qa n.qm n.qc, .slice n.la n.lm n.lc, .int .i64 n.k.t, .int .i64 n.k.r, .int .i64 n.k.s, .int .i64 n.k.q, .slice n.ga n.gm n.gc] 27)).alloc (.cells #[.bool false, .int .i64 0, .bool false, .int .i64 0, .slice none 0 0] 30)) = w0 := ⟨_, rfl⟩
    have hT0 : Below w.heap.size w w0 := by rw [← hw0]; exact below_then (below_alloc1 _ _) (below_alloc1 _ _)
    have hn0 : w0.heap[w.heap.size]? = some (.cells #[.slice n.qa n.qm n.qc, .slice n.la n.lm n.lc, .int .i64 n.k.t, .int .i64 n.k.r, .int .i64 n.k.s, .int .i64 n.k.q, .slice n.ga n.gm n.gc] 27) := by rw [← hw0]; exact block_below (below_alloc1 _ _) (World.alloc_heap_new _ _)
    have hr0 : w0.heap[(w.heap.size + 1)]? = some (.cells #[.bool false, .int .i64 0, .bool false, .int .i64 0, .slice none 0 0] 30) := by rw [← hw0]; exact alloc_at _ _ (by simp)
    have hs0 : w0.heap.size = w.heap.size + 2 := by rw [← hw0]; simp
    have Hs0 := Lib.hid hs0
    clear hs0
    obtain ⟨nc0, nc1, nc2, nc3, nc4, nc5, nc6⟩ := cells7' hn0
    obtain ⟨rc0, rc1, rc2, rc3, rc4⟩ := cells5' hr0
    go_enter Try.func20, Try.ntmps20
    go_wp2_with fail
    clear nc0 nc1 nc2 nc3 nc4 nc5 nc6 rc0 rc1 rc2 rc3 rc4
    clear hw0
    have hZ0 := Below.refl w0.heap.size w0
    refine (nextAt_c (h.to hT0) Hok.out.okq (by omega) false Hq.out 0 (by rw [Hq.out]; rfl)).mono ?_
    rintro e w1 ⟨rfl, hB1⟩
    have hT1 := below_then hT0 hB1
    have hZ1 := below_then hZ0 hB1
    clear hZ0
    have hn1 := block_below hB1 hn0
    have hr1 := block_below hB1 hr0
    clear hT0 hn0 hr0  hB1
    obtain ⟨nc0, nc1, nc2, nc3, nc4, nc5, nc6⟩ := cells7' hn1
    obtain ⟨⟨rc0, rc1, rc2, rc3, rc4⟩, rf0, rf1, rf2, rf3, rf4⟩ := cells5 hr1
    go_wp2_with fail
    clear nc0 nc1 nc2 nc3 nc4 nc5 nc6 rc0 rc1 rc2 rc3 rc4 rf0 rf1 rf2 rf3 rf4
    exact bodyPost_ret (v := .tuple #[FV.v zeroFV, .bool false]) (results_f1 (f := zeroFV) (u := .bool false) rfl _ rfl rfl (set5_obj hr1 _ _ _ _ _)) rfl (⟨zeroFV, rfl, fis_zero, (below_g hT1 (set5_grown _ _ _ _ _ _ _) (by omega))⟩)
  obtain ⟨hlt, hat⟩ := nextF_mem hq
  rw [hF] at hat
  obtain ⟨k, hk⟩ : ∃ k, atN N = k := ⟨_, rfl⟩
  rw [hk] at hlt hat
  rw [h.q.len] at hlt
  have Hk := Lib.hid (show (if hasN N then atN N else 0) = k by rw [hq, hk]; rfl)
  have Hq := Lib.hid hq
  clear hk hq hF hok
  obtain ⟨qa, qm, qc, la, lm, lc, kk, ga, gm, gc⟩ := n
  dsimp only at hlt hm
  obtain ⟨ad, f, F0, hqa, hF0, ha, hf⟩ := h.q.at_ hlt
  dsimp only at hqa
  subst hqa
  obtain rfl : F = F0 := Option.some.inj (hat.symm.trans hF0)
  clear hat hF0
  obtain ⟨w0, hw0⟩ : ∃ w0, ((w.alloc (.cells #[.slice (some ad) qm qc, .slice la lm lc, .int .i64 kk.t, .int .i64 kk.r, .int .i64 kk.s, .int .i64 kk.q, .slice ga gm gc] 27)).alloc (.cells #[.bool false, .int .i64 0, .bool false, .int .i64 0, .slice none 0 0] 30)) = w0 := ⟨_, rfl⟩
  have hT0 : Below w.heap.size w w0 := by rw [← hw0]; exact below_then (below_alloc1 _ _) (below_alloc1 _ _)
  have hn0 : w0.heap[w.heap.size]? = some (.cells #[.slice (some ad) qm qc, .slice la lm lc, .int .i64 kk.t, .int .i64 kk.r, .int .i64 kk.s, .int .i64 kk.q, .slice ga gm gc] 27) := by rw [← hw0]; exact block_below (below_alloc1 _ _) (World.alloc_heap_new _ _)
  have hr0 : w0.heap[(w.heap.size + 1)]? = some (.cells #[.bool false, .int .i64 0, .bool false, .int .i64 0, .slice none 0 0] 30) := by rw [← hw0]; exact alloc_at _ _ (by simp)
  have hs0 : w0.heap.size = w.heap.size + 2 := by rw [← hw0]; simp
  have Hs0 := Lib.hid hs0
  clear hs0
  obtain ⟨nc0, nc1, nc2, nc3, nc4, nc5, nc6⟩ := cells7' hn0
  obtain ⟨rc0, rc1, rc2, rc3, rc4⟩ := cells5' hr0
  go_enter Try.func20, Try.ntmps20
  go_wp2_with fail
  clear nc0 nc1 nc2 nc3 nc4 nc5 nc6 rc0 rc1 rc2 rc3 rc4
  clear hw0
  have hZ0 := Below.refl w0.heap.size w0
  refine (nextAt_c (n := ⟨some ad, qm, qc, la, lm, lc, kk, ga, gm, gc⟩) (h.to hT0) Hok.out.okq (by show qm ≤ 1000; omega) true Hq.out k Hk.out).mono ?_
  rintro e w1 ⟨rfl, hB1⟩
  have hT1 := below_then hT0 hB1
  have hZ1 := below_then hZ0 hB1
  clear hZ0
  have hn1 := block_below hB1 hn0
  have hr1 := block_below hB1 hr0
  clear hT0 hn0 hr0  hB1
  obtain ⟨a0, a1, a2, a3, a4⟩ := fat_to ha hT1
  have i1 : (k : Int) < (qm : Int) := by omega
  obtain ⟨nc0, nc1, nc2, nc3, nc4, nc5, nc6⟩ := cells7' hn1
  obtain ⟨⟨rc0, rc1, rc2, rc3, rc4⟩, rf0, rf1, rf2, rf3, rf4⟩ := cells5 hr1
  go_wp2_with fail
  clear nc0 nc1 nc2 nc3 nc4 nc5 nc6 rc0 rc1 rc2 rc3 rc4 rf0 rf1 rf2 rf3 rf4
  exact bodyPost_ret (v := .tuple #[FV.v f, .bool true]) (results_f1 (f := f) (u := .bool true) rfl _ rfl rfl (set5_obj hr1 _ _ _ _ _)) rfl (⟨f, rfl, hf.to (below_g hT1 (set5_grown _ _ _ _ _ _ _) (by omega)), (below_g hT1 (set5_grown _ _ _ _ _ _ _) (by omega))⟩)

set_option maxRecDepth 100000 in
set_option maxHeartbeats 4000000 in
theorem sent_c {w : World} {P : Nat → Prop} {n : NV} {N : NC} (h : NIs w P n N) (hok : OkN N) (hP : ∀ b, w.heap.size ≤ b → P b) (ok : Bool) (M : NC) (hM : sentN N ok = M) :
    Calls Try.prog 25 #[n.v, .bool ok] w fun e w' => ∃ n' : NV, e = .returned n'.v ∧ NIs w' P n' M ∧ Below w.heap.size w w' := by
  have hm := qm_le h hok
  have hkk := okC_of_nis h hok
  have Hok := Lib.hid hok
  obtain ⟨q, hq⟩ : ∃ q, hasN N = q := ⟨_, rfl⟩
  unfold sentN at hM
  rw [hq] at hM
  cases q
  · skip
    obtain rfl : N = M := hM
    have Hq := Lib.hid hq
    clear hq hok
    obtain ⟨w0, hw0⟩ : ∃ w0, ((w.alloc (.cells #[.slice n.qa n.qm n.qc, .slice n.la n.lm n.lc, .int .i64 n.k.t, .int .i64 n.k.r, .int .i64 n.k.s, .int .i64 n.k.q, .slice n.ga n.gm n.gc] 27)).alloc (.cells #[.slice none 0 0, .slice none 0 0, .int .i64 0, .int .i64 0, .int .i64 0, .int .i64 0, .slice none 0 0] 27)) = w0 := ⟨_, rfl⟩
    have hT0 : Below w.heap.size w w0 := by rw [← hw0]; exact below_then (below_alloc1 _ _) (below_alloc1 _ _)
    have hn0 : w0.heap[w.heap.size]? = some (.cells #[.slice n.qa n.qm n.qc, .slice n.la n.lm n.lc, .int .i64 n.k.t, .int .i64 n.k.r, .int .i64 n.k.s, .int .i64 n.k.q, .slice n.ga n.gm n.gc] 27) := by rw [← hw0]; exact block_below (below_alloc1 _ _) (World.alloc_heap_new _ _)
    have hr0 : w0.heap[(w.heap.size + 1)]? = some (.cells #[.slice none 0 0, .slice none 0 0, .int .i64 0, .int .i64 0, .int .i64 0, .int .i64 0, .slice none 0 0] 27) := by rw [← hw0]; exact alloc_at _ _ (by simp)
    have hs0 : w0.heap.size = w.heap.size + 2 := by rw [← hw0]; simp
    have Hs0 := Lib.hid hs0
    clear hs0
    obtain ⟨nc0, nc1, nc2, nc3, nc4, nc5, nc6⟩ := cells7' hn0
    obtain ⟨rc0, rc1, rc2, rc3, rc4, rc5, rc6⟩ := cells7' hr0
    go_enter Try.func25, Try.ntmps25
    go_wp2_with fail
    clear nc0 nc1 nc2 nc3 nc4 nc5 nc6 rc0 rc1 rc2 rc3 rc4 rc5 rc6
    clear hw0
    have hZ0 := Below.refl w0.heap.size w0
    refine (nextAt_c (h.to hT0) Hok.out.okq (by omega) false Hq.out 0 (by rw [Hq.out]; rfl)).mono ?_
    rintro e w1 ⟨rfl, hB1⟩
    have hT1 := below_then hT0 hB1
    have hZ1 := below_then hZ0 hB1
    clear hZ0
    have hn1 := block_below hB1 hn0
    have hr1 := block_below hB1 hr0
    clear hT0 hn0 hr0  hB1
    obtain ⟨nc0, nc1, nc2, nc3, nc4, nc5, nc6⟩ := cells7' hn1
    obtain ⟨⟨rc0, rc1, rc2, rc3, rc4, rc5, rc6⟩, rf0, rf1, rf2, rf3, rf4, rf5, rf6⟩ := cells7 hr1
    go_wp2_with fail
    clear nc0 nc1 nc2 nc3 nc4 nc5 nc6 rc0 rc1 rc2 rc3 rc4 rc5 rc6 rf0 rf1 rf2 rf3 rf4 rf5 rf6
    exact bodyPost_ret (v := NV.v n) (results_n (n := n) rfl _ rfl (set7_obj hr1 _ _ _ _ _ _ _)) rfl (⟨n, rfl, h.to (below_g hT1 (set7_grown _ _ _ _ _ _ _ _ _) (by omega)), (below_g hT1 (set7_grown _ _ _ _ _ _ _ _ _) (by omega))⟩)
  obtain ⟨hlt, _⟩ := nextF_mem hq
  obtain ⟨k, hk⟩ : ∃ k, atN N = k := ⟨_, rfl⟩
  rw [hk] at hlt hM
  rw [h.q.len] at hlt
  have Hk := Lib.hid (show (if hasN N then atN N else 0) = k by rw [hq, hk]; rfl)
  have Hq := Lib.hid hq
  clear hk hq hok
  cases ok
  · skip
    obtain ⟨d, hd⟩ : ∃ d, stepV n.k 3 = d := ⟨_, rfl⟩
    have Hd := Lib.hid hd
    obtain rfl : (⟨N.q, N.l, d, N.g⟩ : NC) = M := by rw [← hM, ← hd, h.k]; rfl
    clear hd hM
    obtain ⟨w0, hw0⟩ : ∃ w0, ((w.alloc (.cells #[.slice n.qa n.qm n.qc, .slice n.la n.lm n.lc, .int .i64 n.k.t, .int .i64 n.k.r, .int .i64 n.k.s, .int .i64 n.k.q, .slice n.ga n.gm n.gc] 27)).alloc (.cells #[.slice none 0 0, .slice none 0 0, .int .i64 0, .int .i64 0, .int .i64 0, .int .i64 0, .slice none 0 0] 27)) = w0 := ⟨_, rfl⟩
    have hT0 : Below w.heap.size w w0 := by rw [← hw0]; exact below_then (below_alloc1 _ _) (below_alloc1 _ _)
    have hn0 : w0.heap[w.heap.size]? = some (.cells #[.slice n.qa n.qm n.qc, .slice n.la n.lm n.lc, .int .i64 n.k.t, .int .i64 n.k.r, .int .i64 n.k.s, .int .i64 n.k.q, .slice n.ga n.gm n.gc] 27) := by rw [← hw0]; exact block_below (below_alloc1 _ _) (World.alloc_heap_new _ _)
    have hr0 : w0.heap[(w.heap.size + 1)]? = some (.cells #[.slice none 0 0, .slice none 0 0, .int .i64 0, .int .i64 0, .int .i64 0, .int .i64 0, .slice none 0 0] 27) := by rw [← hw0]; exact alloc_at _ _ (by simp)
    have hs0 : w0.heap.size = w.heap.size + 2 := by rw [← hw0]; simp
    have Hs0 := Lib.hid hs0
    clear hs0
    obtain ⟨nc0, nc1, nc2, nc3, nc4, nc5, nc6⟩ := cells7' hn0
    obtain ⟨rc0, rc1, rc2, rc3, rc4, rc5, rc6⟩ := cells7' hr0
    go_enter Try.func25, Try.ntmps25
    go_wp2_with fail
    clear nc0 nc1 nc2 nc3 nc4 nc5 nc6 rc0 rc1 rc2 rc3 rc4 rc5 rc6
    clear hw0
    have hZ0 := Below.refl w0.heap.size w0
    refine (nextAt_c (h.to hT0) Hok.out.okq (by omega) true Hq.out k Hk.out).mono ?_
    rintro e w1 ⟨rfl, hB1⟩
    have hT1 := below_then hT0 hB1
    have hZ1 := below_then hZ0 hB1
    clear hZ0
    have hn1 := block_below hB1 hn0
    have hr1 := block_below hB1 hr0
    clear hT0 hn0 hr0  hB1
    obtain ⟨nc0, nc1, nc2, nc3, nc4, nc5, nc6⟩ := cells7' hn1
    obtain ⟨rc0, rc1, rc2, rc3, rc4, rc5, rc6⟩ := cells7' hr1
    go_wp2_with fail
    clear nc0 nc1 nc2 nc3 nc4 nc5 nc6 rc0 rc1 rc2 rc3 rc4 rc5 rc6
    refine (counted_c n d 3 Hd.out hkk w1).mono ?_
    rintro e w2 ⟨rfl, hB2⟩
    have hT2 := below_then hT1 hB2
    have hZ2 := below_then hZ1 hB2
    clear hZ1
    have hn2 := block_below hB2 hn1
    have hr2 := block_below hB2 hr1
    clear hT1 hn1 hr1  hB2
    obtain ⟨nc0, nc1, nc2, nc3, nc4, nc5, nc6⟩ := cells7' hn2
    obtain ⟨⟨rc0, rc1, rc2, rc3, rc4, rc5, rc6⟩, rf0, rf1, rf2, rf3, rf4, rf5, rf6⟩ := cells7 hr2
    go_wp2_with fail
    clear nc0 nc1 nc2 nc3 nc4 nc5 nc6 rc0 rc1 rc2 rc3 rc4 rc5 rc6 rf0 rf1 rf2 rf3 rf4 rf5 rf6
    exact bodyPost_ret (v := NV.v ⟨n.qa, n.qm, n.qc, n.la, n.lm, n.lc, d, n.ga, n.gm, n.gc⟩) (results_n (n := ⟨n.qa, n.qm, n.qc, n.la, n.lm, n.lc, d, n.ga, n.gm, n.gc⟩) rfl _ rfl (set7_obj hr2 _ _ _ _ _ _ _)) rfl (⟨⟨n.qa, n.qm, n.qc, n.la, n.lm, n.lc, d, n.ga, n.gm, n.gc⟩, rfl, ⟨h.q.to (below_g hT2 (set7_grown _ _ _ _ _ _ _ _ _) (by omega)), h.l.to (below_g hT2 (set7_grown _ _ _ _ _ _ _ _ _) (by omega)), rfl, h.g.to (below_g hT2 (set7_grown _ _ _ _ _ _ _ _ _) (by omega))⟩, (below_g hT2 (set7_grown _ _ _ _ _ _ _ _ _) (by omega))⟩)
  obtain ⟨d, hd⟩ : ∃ d, stepV n.k 1 = d := ⟨_, rfl⟩
  have Hd := Lib.hid hd
  obtain ⟨Gs, hGs⟩ : ∃ Gs, N.q.eraseIdx k = Gs := ⟨_, rfl⟩
  have HGs := Lib.hid hGs
  obtain rfl : (⟨Gs, N.l, d, N.g⟩ : NC) = M := by rw [← hM, ← hd, ← hGs, h.k]; rfl
  clear hd hM hGs
  obtain ⟨m, hmm⟩ : ∃ m, m + 1 = n.qm := ⟨n.qm - 1, by omega⟩
  have Hm := Lib.hid hmm
  clear hmm
  obtain ⟨w0, hw0⟩ : ∃ w0, ((w.alloc (.cells #[.slice n.qa n.qm n.qc, .slice n.la n.lm n.lc, .int .i64 n.k.t, .int .i64 n.k.r, .int .i64 n.k.s, .int .i64 n.k.q, .slice n.ga n.gm n.gc] 27)).alloc (.cells #[.slice none 0 0, .slice none 0 0, .int .i64 0, .int .i64 0, .int .i64 0, .int .i64 0, .slice none 0 0] 27)) = w0 := ⟨_, rfl⟩
  have hT0 : Below w.heap.size w w0 := by rw [← hw0]; exact below_then (below_alloc1 _ _) (below_alloc1 _ _)
  have hn0 : w0.heap[w.heap.size]? = some (.cells #[.slice n.qa n.qm n.qc, .slice n.la n.lm n.lc, .int .i64 n.k.t, .int .i64 n.k.r, .int .i64 n.k.s, .int .i64 n.k.q, .slice n.ga n.gm n.gc] 27) := by rw [← hw0]; exact block_below (below_alloc1 _ _) (World.alloc_heap_new _ _)
  have hr0 : w0.heap[(w.heap.size + 1)]? = some (.cells #[.slice none 0 0, .slice none 0 0, .int .i64 0, .int .i64 0, .int .i64 0, .int .i64 0, .slice none 0 0] 27) := by rw [← hw0]; exact alloc_at _ _ (by simp)
  have hs0 : w0.heap.size = w.heap.size + 2 := by rw [← hw0]; simp
  have Hs0 := Lib.hid hs0
  clear hs0
  obtain ⟨nc0, nc1, nc2, nc3, nc4, nc5, nc6⟩ := cells7' hn0
  obtain ⟨rc0, rc1, rc2, rc3, rc4, rc5, rc6⟩ := cells7' hr0
  go_enter Try.func25, Try.ntmps25
  go_wp2_with fail
  clear nc0 nc1 nc2 nc3 nc4 nc5 nc6 rc0 rc1 rc2 rc3 rc4 rc5 rc6
  clear hw0
  have hZ0 := Below.refl w0.heap.size w0
  refine (nextAt_c (h.to hT0) Hok.out.okq (by omega) true Hq.out k Hk.out).mono ?_
  rintro e w1 ⟨rfl, hB1⟩
  have hT1 := below_then hT0 hB1
  have hZ1 := below_then hZ0 hB1
  clear hZ0
  have hn1 := block_below hB1 hn0
  have hr1 := block_below hB1 hr0
  clear hT0 hn0 hr0  hB1
  obtain ⟨nc0, nc1, nc2, nc3, nc4, nc5, nc6⟩ := cells7' hn1
  obtain ⟨rc0, rc1, rc2, rc3, rc4, rc5, rc6⟩ := cells7' hr1
  go_wp2_with fail
  clear nc0 nc1 nc2 nc3 nc4 nc5 nc6 rc0 rc1 rc2 rc3 rc4 rc5 rc6
  refine (without_c ((h.q.gap (w.heap.size + 2)).to hT1) (fun b hb => gap_up hP (by omega) b (by have := hT1.size; have := (Array.getElem?_eq_some_iff.1 hr1).1; omega)) k hlt m Hm.out (by omega) Gs HGs.out).mono ?_
  rintro e w2 ⟨A2, c2, rfl, hs_, hB2⟩
  have hT2 := below_then hT1 hB2
  have hZ2 := below_then hZ1 hB2
  clear hZ1
  have hn2 := block_below hB2 hn1
  have hr2 := block_below hB2 hr1
  clear hT1 hn1 hr1  hB2
  have hs2 := hs_
  clear hs_
  obtain ⟨⟨nc0, nc1, nc2, nc3, nc4, nc5, nc6⟩, nf0, nf1, nf2, nf3, nf4, nf5, nf6⟩ := cells7 hn2
  obtain ⟨⟨rc0, rc1, rc2, rc3, rc4, rc5, rc6⟩, rf0, rf1, rf2, rf3, rf4, rf5, rf6⟩ := cells7 hr2
  go_wp2_with fail
  clear nc0 nc1 nc2 nc3 nc4 nc5 nc6 nf0 nf1 nf2 nf3 nf4 nf5 nf6 rc0 rc1 rc2 rc3 rc4 rc5 rc6 rf0 rf1 rf2 rf3 rf4 rf5 rf6
  obtain ⟨w3, hw3⟩ : ∃ w_, w2.setCell ⟨w.heap.size, 0, none⟩ (.slice A2 m c2) = w_ := ⟨_, rfl⟩
  have hG3 : w2.grownBy w3 (some w.heap.size) := by rw [← hw3]; exact grown_setAt _ _ _ _
  have hT3 := below_g hT2 hG3 (by omega)
  have hn3 : w3.heap[w.heap.size]? = some (.cells #[.slice A2 m c2, .slice n.la n.lm n.lc, .int .i64 n.k.t, .int .i64 n.k.r, .int .i64 n.k.s, .int .i64 n.k.q, .slice n.ga n.gm n.gc] 27) := by rw [← hw3]; exact set0_obj7 hn2 _
  have hr3 := other_g hG3 hr2 (by omega)
  have hs3 := FSl.grow hs2 hG3 (gap_not (by omega) (by omega))
  rw [hw3]
  clear hw3 hG3 hT2 hn2 hr2 hs2
  refine (counted_c ⟨A2, m, c2, n.la, n.lm, n.lc, n.k, n.ga, n.gm, n.gc⟩ d 1 Hd.out hkk w3).mono ?_
  rintro e w4 ⟨rfl, hB4⟩
  have hT4 := below_then hT3 hB4
  have hn4 := block_below hB4 hn3
  have hr4 := block_below hB4 hr3
  have hs4 := FSl.to hs3 hB4
  clear hT3 hn3 hr3 hs3 hB4
  obtain ⟨nc0, nc1, nc2, nc3, nc4, nc5, nc6⟩ := cells7' hn4
  obtain ⟨⟨rc0, rc1, rc2, rc3, rc4, rc5, rc6⟩, rf0, rf1, rf2, rf3, rf4, rf5, rf6⟩ := cells7 hr4
  go_wp2_with fail
  clear nc0 nc1 nc2 nc3 nc4 nc5 nc6 rc0 rc1 rc2 rc3 rc4 rc5 rc6 rf0 rf1 rf2 rf3 rf4 rf5 rf6
  exact bodyPost_ret (v := NV.v ⟨A2, m, c2, n.la, n.lm, n.lc, d, n.ga, n.gm, n.gc⟩) (results_n (n := ⟨A2, m, c2, n.la, n.lm, n.lc, d, n.ga, n.gm, n.gc⟩) rfl _ rfl (set7_obj hr4 _ _ _ _ _ _ _)) rfl (⟨⟨A2, m, c2, n.la, n.lm, n.lc, d, n.ga, n.gm, n.gc⟩, rfl, ⟨(hs4.grow (set7_grown _ _ _ _ _ _ _ _ _) (gap_not (by omega) (by omega))).ungap, h.l.to (below_g hT4 (set7_grown _ _ _ _ _ _ _ _ _) (by omega)), rfl, h.g.to (below_g hT4 (set7_grown _ _ _ _ _ _ _ _ _) (by omega))⟩, (below_g hT4 (set7_grown _ _ _ _ _ _ _ _ _) (by omega))⟩)

end Go.Proofs.Ytlbgilbigcnleaa
