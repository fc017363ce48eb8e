/-
  Sent: the document.
-/
import Derived.Test.YtlbgilbigcnleaaNeA
import Derived.Test.YtlbgilbigcnleaaNGo
namespace Go.Proofs.Ytlbgilbigcnleaa
open Go.RowKit
set_option linter.unusedVariables false
set_option linter.unusedSimpArgs false

theorem step_append_fr {w : World} {ops : Array Oper} {o : Oper} {a : Act} {K : Act → World → Prop} {Q : Exit → Act → World → Prop} {E : Prop} (hgd : o.guard = none) (s x : Operand)
    (ho : o.op = .call { callee := .builtin .append, args := #[s, x], argTypes := #[22, 22] })
    (base : Nat) (v : Value) (n : Nat) (fs : List FV) (hs : a.eval s = v) (hown : w.ownsRow base 30 5 v n (fcells fs))
    (A : Option Addr) (m c B : Nat) (fs' : List FV) (hx : a.eval x = .slice A m c) (hm : fs'.length = m) (hr : FRow w B A fs')
    (h63 : n + m ≤ 1000) (hbase : base ≤ w.heap.size) (d : Nat) (hd : o.dst = some d)
    (h : ∀ A' c' w', FOwn w' base A' (n + m) c' (fs ++ fs') → n + m ≤ c' → Below base w w' → K (a.put (some d) (.slice A' (n + m) c')) w') :
    if Region.wanted o (yielded ops a.tmps) = true then Oper.wp Try.prog o a w K Q else E := by
  obtain ⟨A', c', w', hrun, h2, hc', h3⟩ := run_append_fr w base o.type v n fs hown A m c B fs' hm hr h63 hbase
  have hw : Region.wanted o (yielded ops a.tmps) = true := by simp [Region.wanted, hgd]
  rw [if_pos hw]
  unfold Oper.wp execOp
  simp only [ho, resolve, invoke, builtin, Sem.run_bind, Sem.run_pure, Result.andThen_ok, List.map_toArray, List.map_cons, List.map_nil, hs, hx, hrun]
  rw [← hd] at h
  exact h A' c' w' h2 hc' h3

set_option maxRecDepth 100000 in
set_option maxHeartbeats 1000000 in
theorem refSent_none {w : World} {P : Nat → Prop} {n : NV} {N : NC} (h : NIs w P n N) (hok : OkN N) (hP : ∀ b, w.heap.size ≤ b → P b) (ok : Bool) (hq : hasN N = false) :
    Calls Try.prog 26 #[n.v, .bool ok] w fun e w' => ∃ n' : NV, e = .returned n'.v ∧ NIs w' P n' N ∧ Below w.heap.size w w' := by
  have hm := qm_le h hok
  have hkk := okC_of_nis h hok
  have Hok := Lib.hid hok
  have Hq := Lib.hid hq
  clear hq hok
  obtain ⟨w0, hw0⟩ : ∃ w0, ((w.alloc (.cells #[.slice n.qa n.qm n.qc, .slice n.la n.lm n.lc, .int .i64 n.k.t, .int .i64 n.k.r, .int .i64 n.k.s, .int .i64 n.k.q, .slice n.ga n.gm n.gc] 27)).alloc (.cells #[.slice none 0 0, .slice none 0 0, .int .i64 0, .int .i64 0, .int .i64 0, .int .i64 0, .slice none 0 0] 27)) = w0 := ⟨_, rfl⟩
  have hT0 : Below w.heap.size w w0 := by rw [← hw0]; exact below_then (below_alloc1 _ _) (below_alloc1 _ _)
  have hn0 : w0.heap[w.heap.size]? = some (.cells #[.slice n.qa n.qm n.qc, .slice n.la n.lm n.lc, .int .i64 n.k.t, .int .i64 n.k.r, .int .i64 n.k.s, .int .i64 n.k.q, .slice n.ga n.gm n.gc] 27) := by rw [← hw0]; exact block_below (below_alloc1 _ _) (World.alloc_heap_new _ _)
  have hr0 : w0.heap[(w.heap.size + 1)]? = some (.cells #[.slice none 0 0, .slice none 0 0, .int .i64 0, .int .i64 0, .int .i64 0, .int .i64 0, .slice none 0 0] 27) := by rw [← hw0]; exact alloc_at _ _ (by simp)
  have hs0 : w0.heap.size = w.heap.size + 2 := by rw [← hw0]; simp
  have Hs0 := Lib.hid hs0
  clear hs0
  obtain ⟨nc0, nc1, nc2, nc3, nc4, nc5, nc6⟩ := cells7' hn0
  obtain ⟨rc0, rc1, rc2, rc3, rc4, rc5, rc6⟩ := cells7' hr0
  go_enter Try.func26, Try.ntmps26
  go_wp2_with fail
  clear nc0 nc1 nc2 nc3 nc4 nc5 nc6 rc0 rc1 rc2 rc3 rc4 rc5 rc6
  clear hw0
  have hZ0 := Below.refl w0.heap.size w0
  refine (place_c (h.to hT0) Hok.out.okq (by omega) (-1) (by rw [Hq.out]; rfl)).mono ?_
  rintro e w1 ⟨rfl, hB1⟩
  have hT1 := below_then hT0 hB1
  have hZ1 := below_then hZ0 hB1
  clear hZ0
  have hn1 := block_below hB1 hn0
  have hr1 := block_below hB1 hr0
  clear hT0 hn0 hr0  hB1
  obtain ⟨nc0, nc1, nc2, nc3, nc4, nc5, nc6⟩ := cells7' hn1
  obtain ⟨⟨rc0, rc1, rc2, rc3, rc4, rc5, rc6⟩, rf0, rf1, rf2, rf3, rf4, rf5, rf6⟩ := cells7 hr1
  go_wp2_with fail
  clear nc0 nc1 nc2 nc3 nc4 nc5 nc6 rc0 rc1 rc2 rc3 rc4 rc5 rc6 rf0 rf1 rf2 rf3 rf4 rf5 rf6
  exact bodyPost_ret (v := NV.v n) (results_n (n := n) rfl _ rfl (set7_obj hr1 _ _ _ _ _ _ _)) rfl (⟨n, rfl, h.to (below_g hT1 (set7_grown _ _ _ _ _ _ _ _ _) (by omega)), (below_g hT1 (set7_grown _ _ _ _ _ _ _ _ _) (by omega))⟩)

set_option maxRecDepth 100000 in
set_option maxHeartbeats 1000000 in
theorem refSent_no {w : World} {P : Nat → Prop} {n : NV} {N : NC} (h : NIs w P n N) (hok : OkN N) (hP : ∀ b, w.heap.size ≤ b → P b) (hq : hasN N = true) :
    Calls Try.prog 26 #[n.v, .bool false] w fun e w' => ∃ n' : NV, e = .returned n'.v ∧ NIs w' P n' ⟨N.q, N.l, stepV N.k 3, N.g⟩ ∧ Below w.heap.size w w' := by
  have hm := qm_le h hok
  have hkk := okC_of_nis h hok
  have Hok := Lib.hid hok
  obtain ⟨hlt, _⟩ := nextF_mem hq
  obtain ⟨k, hk⟩ : ∃ k, atN N = k := ⟨_, rfl⟩
  rw [hk] at hlt
  rw [h.q.len] at hlt
  have Hk := Lib.hid (show (if hasN N then (atN N : Int) else -1) = (k : Int) by rw [hq, hk]; rfl)
  have i2 : ¬ (k : Int) < 0 := by omega
  have i3 : decide ((k : Int) < 0) = false := by simp
  clear hk hq hok
  obtain ⟨d, hd⟩ : ∃ d, stepV n.k 3 = d := ⟨_, rfl⟩
  have Hd := Lib.hid hd
  have HD := Lib.hid (show d = stepV N.k 3 by rw [← h.k, hd])
  clear hd
  obtain ⟨w0, hw0⟩ : ∃ w0, ((w.alloc (.cells #[.slice n.qa n.qm n.qc, .slice n.la n.lm n.lc, .int .i64 n.k.t, .int .i64 n.k.r, .int .i64 n.k.s, .int .i64 n.k.q, .slice n.ga n.gm n.gc] 27)).alloc (.cells #[.slice none 0 0, .slice none 0 0, .int .i64 0, .int .i64 0, .int .i64 0, .int .i64 0, .slice none 0 0] 27)) = w0 := ⟨_, rfl⟩
  have hT0 : Below w.heap.size w w0 := by rw [← hw0]; exact below_then (below_alloc1 _ _) (below_alloc1 _ _)
  have hn0 : w0.heap[w.heap.size]? = some (.cells #[.slice n.qa n.qm n.qc, .slice n.la n.lm n.lc, .int .i64 n.k.t, .int .i64 n.k.r, .int .i64 n.k.s, .int .i64 n.k.q, .slice n.ga n.gm n.gc] 27) := by rw [← hw0]; exact block_below (below_alloc1 _ _) (World.alloc_heap_new _ _)
  have hr0 : w0.heap[(w.heap.size + 1)]? = some (.cells #[.slice none 0 0, .slice none 0 0, .int .i64 0, .int .i64 0, .int .i64 0, .int .i64 0, .slice none 0 0] 27) := by rw [← hw0]; exact alloc_at _ _ (by simp)
  have hs0 : w0.heap.size = w.heap.size + 2 := by rw [← hw0]; simp
  have Hs0 := Lib.hid hs0
  clear hs0
  obtain ⟨nc0, nc1, nc2, nc3, nc4, nc5, nc6⟩ := cells7' hn0
  obtain ⟨rc0, rc1, rc2, rc3, rc4, rc5, rc6⟩ := cells7' hr0
  go_enter Try.func26, Try.ntmps26
  go_wp2_with fail
  clear nc0 nc1 nc2 nc3 nc4 nc5 nc6 rc0 rc1 rc2 rc3 rc4 rc5 rc6
  clear hw0
  have hZ0 := Below.refl w0.heap.size w0
  refine (place_c (h.to hT0) Hok.out.okq (by omega) k Hk.out).mono ?_
  rintro e w1 ⟨rfl, hB1⟩
  have hT1 := below_then hT0 hB1
  have hZ1 := below_then hZ0 hB1
  clear hZ0
  have hn1 := block_below hB1 hn0
  have hr1 := block_below hB1 hr0
  clear hT0 hn0 hr0  hB1
  obtain ⟨nc0, nc1, nc2, nc3, nc4, nc5, nc6⟩ := cells7' hn1
  obtain ⟨rc0, rc1, rc2, rc3, rc4, rc5, rc6⟩ := cells7' hr1
  go_wp2_with fail
  clear nc0 nc1 nc2 nc3 nc4 nc5 nc6 rc0 rc1 rc2 rc3 rc4 rc5 rc6
  refine (refStep_any n.k d 3 Hd.out hkk w1).mono ?_
  rintro e w2 ⟨rfl, hB2⟩
  have hT2 := below_then hT1 hB2
  have hZ2 := below_then hZ1 hB2
  clear hZ1
  have hn2 := block_below hB2 hn1
  have hr2 := block_below hB2 hr1
  clear hT1 hn1 hr1  hB2
  obtain ⟨⟨nc0, nc1, nc2, nc3, nc4, nc5, nc6⟩, nf0, nf1, nf2, nf3, nf4, nf5, nf6⟩ := cells7 hn2
  obtain ⟨⟨rc0, rc1, rc2, rc3, rc4, rc5, rc6⟩, rf0, rf1, rf2, rf3, rf4, rf5, rf6⟩ := cells7 hr2
  go_wp2_with fail
  clear nc0 nc1 nc2 nc3 nc4 nc5 nc6 nf0 nf1 nf2 nf3 nf4 nf5 nf6 rc0 rc1 rc2 rc3 rc4 rc5 rc6 rf0 rf1 rf2 rf3 rf4 rf5 rf6
  exact bodyPost_ret (v := NV.v ⟨n.qa, n.qm, n.qc, n.la, n.lm, n.lc, d, n.ga, n.gm, n.gc⟩) (results_n (n := ⟨n.qa, n.qm, n.qc, n.la, n.lm, n.lc, d, n.ga, n.gm, n.gc⟩) rfl _ rfl (set7_obj (other_g (set25_grown _ _ _ _ _ _) hr2 (by omega)) _ _ _ _ _ _ _)) rfl ⟨⟨n.qa, n.qm, n.qc, n.la, n.lm, n.lc, d, n.ga, n.gm, n.gc⟩, rfl, ⟨h.q.to (below_g (below_g hT2 (set25_grown _ _ _ _ _ _) (Nat.le_refl _)) (set7_grown _ _ _ _ _ _ _ _ _) (by omega)), h.l.to (below_g (below_g hT2 (set25_grown _ _ _ _ _ _) (Nat.le_refl _)) (set7_grown _ _ _ _ _ _ _ _ _) (by omega)), HD.out, h.g.to (below_g (below_g hT2 (set25_grown _ _ _ _ _ _) (Nat.le_refl _)) (set7_grown _ _ _ _ _ _ _ _ _) (by omega))⟩, (below_g (below_g hT2 (set25_grown _ _ _ _ _ _) (Nat.le_refl _)) (set7_grown _ _ _ _ _ _ _ _ _) (by omega))⟩

set_option maxRecDepth 100000 in
set_option maxHeartbeats 6000000 in
theorem refSent_yes {w : World} {P : Nat → Prop} {n : NV} {N : NC} (h : NIs w P n N) (hok : OkN N) (hP : ∀ b, w.heap.size ≤ b → P b) (hq : hasN N = true) :
    Calls Try.prog 26 #[n.v, .bool true] w fun e w' => ∃ n' : NV, e = .returned n'.v ∧ NIs w' P n' ⟨N.q.eraseIdx (atN N), N.l, stepV N.k 1, N.g⟩ ∧ Below w.heap.size w w' := by
  have hm := qm_le h hok
  have hkk := okC_of_nis h hok
  have Hok := Lib.hid hok
  obtain ⟨hlt, _⟩ := nextF_mem hq
  obtain ⟨k, hk⟩ : ∃ k, atN N = k := ⟨_, rfl⟩
  rw [hk] at hlt
  rw [h.q.len] at hlt
  have Hk := Lib.hid (show (if hasN N then (atN N : Int) else -1) = (k : Int) by rw [hq, hk]; rfl)
  have i2 : ¬ (k : Int) < 0 := by omega
  have i3 : decide ((k : Int) < 0) = false := by simp
  rw [hk]
  clear hk hq hok
  obtain ⟨Gs, hGs⟩ : ∃ Gs, N.q.eraseIdx k = Gs := ⟨_, rfl⟩
  rw [hGs]
  have HGs := Lib.hid (show N.q.take k ++ N.q.drop (k + 1) = Gs by rw [← hGs]; exact (List.eraseIdx_eq_take_drop_succ N.q k).symm)
  clear hGs
  obtain ⟨d, hd⟩ : ∃ d, stepV n.k 1 = d := ⟨_, rfl⟩
  have Hd := Lib.hid hd
  have HD := Lib.hid (show d = stepV N.k 1 by rw [← h.k, hd])
  clear hd
  have hcap := h.q.cap
  obtain ⟨qa, qm, qc, la, lm, lc, kk, ga, gm, gc⟩ := n
  dsimp only at hlt hm hkk Hd hcap
  obtain ⟨ad, f, F0, hqa, _⟩ := h.q.at_ hlt
  dsimp only at hqa
  subst hqa
  obtain ⟨fs, hrow, his⟩ := h.q.row
  dsimp only at hrow
  have hfl : fs.length = qm := his.1.trans h.q.len
  have hsl : FRow w w.heap.size (some ad) (fs.take k) := by
    have := hrow.sub_ 0 k (Nat.zero_le _) (by rw [hfl]; omega) (A' := some ad) (fun _ => by simp [Addr.add])
    simpa using this
  have hsr : FRow w w.heap.size (some (ad.add ((k + 1) * 5))) (fs.drop (k + 1)) := by
    have := hrow.sub_ (k + 1) qm (by omega) (by rw [hfl]; exact Nat.le_refl _) (A' := some (ad.add ((k + 1) * 5))) (fun _ => rfl)
    rwa [List.take_of_length_le (by rw [List.length_drop, hfl]; omega)] at this
  have hsr' := hsr
  rw [add_pos _ _ (by omega)] at hsr'
  have Htl := Lib.hid (show (fs.take k).length = k by rw [List.length_take, hfl]; omega)
  have Hdl := Lib.hid (show (fs.drop (k + 1)).length = qm - (k + 1) by rw [List.length_drop, hfl])
  have Hds := Lib.hid (show FsIs w P (fs.take k ++ fs.drop (k + 1)) Gs by rw [← HGs.out]; exact (his.take k).append (his.drop (k + 1)))
  clear hfl his
  have j1 : (k : Int) ≤ (qc : Int) := by omega
  have j2 : (k : Int) + 1 ≤ (qm : Int) := by omega
  have j3 : (qm : Int) ≤ (qc : Int) := by omega
  have j6 : (0 : Int) ≤ (k : Int) + 1 := by omega
  have j4 : ((k : Int) + 1).toNat = k + 1 := by omega
  have j5 : IntKind.i64.wrap ((k : Int) + 1) = (k : Int) + 1 := by rw [IntKind.wrap_i64]; omega
  have j7 : (0 : Int) ≤ (k : Int) := by omega
  have hnis := h
  by_cases hce : k + 1 = qc
  · skip
    have Hdn := Lib.hid (show fs.drop (k + 1) = [] from List.eq_nil_of_length_eq_zero (by rw [Hdl.out]; omega))
    obtain ⟨w0, hw0⟩ : ∃ w0, ((w.alloc (.cells #[.slice (some ad) qm qc, .slice la lm lc, .int .i64 kk.t, .int .i64 kk.r, .int .i64 kk.s, .int .i64 kk.q, .slice ga gm gc] 27)).alloc (.cells #[.slice none 0 0, .slice none 0 0, .int .i64 0, .int .i64 0, .int .i64 0, .int .i64 0, .slice none 0 0] 27)) = w0 := ⟨_, rfl⟩
    have hT0 : Below w.heap.size w w0 := by rw [← hw0]; exact below_then (below_alloc1 _ _) (below_alloc1 _ _)
    have hn0 : w0.heap[w.heap.size]? = some (.cells #[.slice (some ad) qm qc, .slice la lm lc, .int .i64 kk.t, .int .i64 kk.r, .int .i64 kk.s, .int .i64 kk.q, .slice ga gm gc] 27) := by rw [← hw0]; exact block_below (below_alloc1 _ _) (World.alloc_heap_new _ _)
    have hr0 : w0.heap[(w.heap.size + 1)]? = some (.cells #[.slice none 0 0, .slice none 0 0, .int .i64 0, .int .i64 0, .int .i64 0, .int .i64 0, .slice none 0 0] 27) := by rw [← hw0]; exact alloc_at _ _ (by simp)
    have hs0 : w0.heap.size = w.heap.size + 2 := by rw [← hw0]; simp
    have Hs0 := Lib.hid hs0
    clear hs0
    obtain ⟨nc0, nc1, nc2, nc3, nc4, nc5, nc6⟩ := cells7' hn0
    obtain ⟨rc0, rc1, rc2, rc3, rc4, rc5, rc6⟩ := cells7' hr0
    go_enter Try.func26, Try.ntmps26
    go_wp2_with fail
    clear nc0 nc1 nc2 nc3 nc4 nc5 nc6 rc0 rc1 rc2 rc3 rc4 rc5 rc6
    clear hw0
    have hZ0 := Below.refl w0.heap.size w0
    refine (place_c (n := ⟨some ad, qm, qc, la, lm, lc, kk, ga, gm, gc⟩) (h.to hT0) Hok.out.okq (by show qm ≤ 1000; omega) k Hk.out).mono ?_
    rintro e w1 ⟨rfl, hB1⟩
    have hT1 := below_then hT0 hB1
    have hZ1 := below_then hZ0 hB1
    clear hZ0
    have hn1 := block_below hB1 hn0
    have hr1 := block_below hB1 hr0
    clear hT0 hn0 hr0  hB1
    obtain ⟨nc0, nc1, nc2, nc3, nc4, nc5, nc6⟩ := cells7' hn1
    obtain ⟨rc0, rc1, rc2, rc3, rc4, rc5, rc6⟩ := cells7' hr1
    go_wp2_with fail
    clear nc0 nc1 nc2 nc3 nc4 nc5 nc6 rc0 rc1 rc2 rc3 rc4 rc5 rc6
    have hBd2 : Below w1.heap.size w1 (w1.alloc (.cells #[] 30)).drew := below_then (below_alloc1 _ _) (below_drew1 _)
    have hBd := below_then hT1 hBd2
    refine wp_region_till 13 (S := fun W => W.cell? ⟨w.heap.size, 0, none⟩ = some (.slice (some ad) qm qc) ∧ W.cell? ⟨w.heap.size, 1, none⟩ = some (.slice la lm lc) ∧ W.cell? ⟨w.heap.size, 2, none⟩ = some (.int .i64 kk.t) ∧ W.cell? ⟨w.heap.size, 3, none⟩ = some (.int .i64 kk.r) ∧ W.cell? ⟨w.heap.size, 4, none⟩ = some (.int .i64 kk.s) ∧ W.cell? ⟨w.heap.size, 5, none⟩ = some (.int .i64 kk.q) ∧ W.cell? ⟨w.heap.size, 6, none⟩ = some (.slice ga gm gc)) (by kernel_rfl) (by exact cells7' (block_below (below_drew1 _) hn1)) (fun hHeld_ => ?_)
    refine wpTill_take (i := 1) (v := ?vT1_1_0_) 13 rfl rfl (by kernel_rfl) (by kernel_rfl) (by kernel_rfl) (fun _ _ _ h => h) (Or.inl ⟨by kernel_rfl, ?hyT1_1_0_⟩) (by assumption) (by kernel_rfl) ?restT1_1_0_
    case hyT1_1_0_ => (intro W_ hS_; (try dsimp only at hS_); go_simp; (try (with_reducible rfl)))
    try simp only [Act.put, List.setIfInBounds_toArray, List.set_cons_zero, List.set_cons_succ]
    refine wpTill_take (i := 2) (v := ?vT1_2_0_) 14 rfl rfl (by kernel_rfl) (by kernel_rfl) (by kernel_rfl) (fun _ _ _ h => h) (Or.inl ⟨by kernel_rfl, ?hyT1_2_0_⟩) (by assumption) (by kernel_rfl) ?restT1_2_0_
    case hyT1_2_0_ => (intro W_ hS_; (try dsimp only at hS_); go_simp; (try (with_reducible rfl)))
    try simp only [Act.put, List.setIfInBounds_toArray, List.set_cons_zero, List.set_cons_succ]
    refine wpTill_take (i := 3) (v := ?vT1_3_0_) 15 rfl rfl (by kernel_rfl) (by kernel_rfl) (by kernel_rfl) (fun _ _ _ h => h) (Or.inl ⟨by kernel_rfl, ?hyT1_3_0_⟩) (by assumption) (by kernel_rfl) ?restT1_3_0_
    case hyT1_3_0_ => (intro W_ hS_; (try dsimp only at hS_); go_simp; (try (with_reducible rfl)))
    try simp only [Act.put, List.setIfInBounds_toArray, List.set_cons_zero, List.set_cons_succ]
    refine wpTill_take (i := 4) (v := ?vT1_4_0_) 16 rfl rfl (by kernel_rfl) (by kernel_rfl) (by kernel_rfl) (fun _ _ _ h => h) (Or.inl ⟨by kernel_rfl, ?hyT1_4_0_⟩) (by assumption) (by kernel_rfl) ?restT1_4_0_
    case hyT1_4_0_ => (intro W_ hS_; (try dsimp only at hS_); go_simp; (try (with_reducible rfl)))
    try simp only [Act.put, List.setIfInBounds_toArray, List.set_cons_zero, List.set_cons_succ]
    refine wpTill_take (i := 6) (v := ?vT1_6_0_) 18 rfl rfl (by kernel_rfl) (by kernel_rfl) (by kernel_rfl) (fun _ _ _ h => h) (Or.inl ⟨by kernel_rfl, ?hyT1_6_0_⟩) (by assumption) (by kernel_rfl) ?restT1_6_0_
    case hyT1_6_0_ => (intro W_ hS_; (try dsimp only at hS_); go_simp; (try (with_reducible rfl)))
    try simp only [Act.put, List.setIfInBounds_toArray, List.set_cons_zero, List.set_cons_succ]
    refine wpTill_take (i := 7) (v := ?vT1_7_0_) 19 rfl rfl (by kernel_rfl) (by kernel_rfl) (by kernel_rfl) (fun _ _ _ h => h) (Or.inl ⟨by kernel_rfl, ?hyT1_7_0_⟩) (by assumption) (by kernel_rfl) ?restT1_7_0_
    case hyT1_7_0_ => (intro W_ hS_; (try dsimp only at hS_); go_simp; (try (with_reducible rfl)))
    try simp only [Act.put, List.setIfInBounds_toArray, List.set_cons_zero, List.set_cons_succ]
    refine wpTill_take (i := 8) (v := ?vT1_8_0_) 20 rfl rfl (by kernel_rfl) (by kernel_rfl) (by kernel_rfl) (fun _ _ _ h => h) (Or.inl ⟨by kernel_rfl, ?hyT1_8_0_⟩) (by assumption) (by kernel_rfl) ?restT1_8_0_
    case hyT1_8_0_ => (intro W_ hS_; (try dsimp only at hS_); go_simp; (try (with_reducible rfl)))
    try simp only [Act.put, List.setIfInBounds_toArray, List.set_cons_zero, List.set_cons_succ]
    refine wpTill_take (i := 9) (v := ?vT1_9_0_) 21 rfl rfl (by kernel_rfl) (by kernel_rfl) (by kernel_rfl) (fun _ _ _ h => h) (Or.inl ⟨by kernel_rfl, ?hyT1_9_0_⟩) (by assumption) (by kernel_rfl) ?restT1_9_0_
    case hyT1_9_0_ => (intro W_ hS_; (try dsimp only at hS_); go_simp; (try (with_reducible rfl)))
    try simp only [Act.put, List.setIfInBounds_toArray, List.set_cons_zero, List.set_cons_succ]
    refine wpTill_take (i := 10) (v := ?vT1_10_0_) 22 rfl rfl (by kernel_rfl) (by kernel_rfl) (by kernel_rfl) (fun _ _ _ h => h) (Or.inl ⟨by kernel_rfl, ?hyT1_10_0_⟩) (by assumption) (by kernel_rfl) ?restT1_10_0_
    case hyT1_10_0_ => (intro W_ hS_; (try dsimp only at hS_); go_simp; (try (with_reducible rfl)))
    try simp only [Act.put, List.setIfInBounds_toArray, List.set_cons_zero, List.set_cons_succ]
    refine wpTill_ready (rs := [0]) (by kernel_rfl) (by simp) ?_
    refine (AllTill.cons rfl (fun K_ hK_ => ?_) AllTill.nil)
    go_simp
    go_wp2_with fail
    refine hK_.out _ _ (fun _ => by exact cells7' (block_below hBd2 hn1)) (fun hHeld_0_0 => ?_)
    replace hHeld_0_0 := hHeld_0_0 (by decide)
    clear hK_
    try simp only [Act.put, List.setIfInBounds_toArray, List.set_cons_zero, List.set_cons_succ]
    refine wpTill_ready (rs := [5]) (by kernel_rfl) (by simp) ?_
    refine (AllTill.cons rfl (fun K_ hK_ => ?_) AllTill.nil)
    refine step_append_fr rfl _ _ rfl w1.heap.size _ 0 [] rfl (own_to (fown_empty w1 _ _ rfl (Nat.le_refl _)) (below_drew1 _)) _ _ _ _ (fs.take k) rfl Htl.out (hsl.below hBd) (by omega) hBd2.size 17 rfl ?_
    intro A5 c5 w5 hown5 hc5 hB5
    simp only [Nat.zero_add, List.nil_append] at hown5 hc5 ⊢
    have hBk5 : Below w1.heap.size w1 w5 := hBd2.trans hB5
    have hB05 := below_then hT1 hBk5
    refine hK_.out _ _ (fun _ => by exact cells7' (block_below hBk5 hn1)) (fun hHeld_5_1 => ?_)
    replace hHeld_5_1 := hHeld_5_1 (by decide)
    clear hK_
    try simp only [Act.put, List.setIfInBounds_toArray, List.set_cons_zero, List.set_cons_succ]
    refine wpTill_ready (rs := [11]) (by kernel_rfl) (by simp) ?_
    refine (AllTill.cons rfl (fun K_ hK_ => ?_) AllTill.nil)
    refine step_append_fr rfl _ _ rfl w1.heap.size _ k (fs.take k) rfl hown5 _ _ _ _ [] rfl rfl (show FRow w5 w.heap.size _ [] from .inl rfl) (by omega) hBk5.size 23 rfl ?_
    intro A6 c6 w6 hown6 hc6 hB6
    have hBk6 : Below w1.heap.size w1 w6 := hBk5.trans hB6
    refine hK_.out _ _ (fun _ => by exact cells7' (block_below hBk6 hn1)) (fun hHeld_11_2 => ?_)
    replace hHeld_11_2 := hHeld_11_2 (by decide)
    clear hK_
    try simp only [Act.put, List.setIfInBounds_toArray, List.set_cons_zero, List.set_cons_succ]
    refine wpTill_take (i := 12) (v := ?vT1_12_3_0_5_11) 24 rfl rfl (by kernel_rfl) (by kernel_rfl) (by kernel_rfl) (fun _ _ _ h => h) (Or.inl ⟨by kernel_rfl, ?hyT1_12_3_0_5_11⟩) (by assumption) (by kernel_rfl) ?restT1_12_3_0_5_11
    case hyT1_12_3_0_5_11 => (intro W_ hS_; (try dsimp only at hS_); go_simp; (try (with_reducible rfl)))
    try simp only [Act.put, List.setIfInBounds_toArray, List.set_cons_zero, List.set_cons_succ]
    refine wpTill_ready (rs := [13]) (by kernel_rfl) (by simp) ?_
    refine (AllTill.cons rfl (fun K_ hK_ => ?_) AllTill.nil)
    obtain ⟨⟨nc0, nc1, nc2, nc3, nc4, nc5, nc6⟩, nf0, nf1, nf2, nf3, nf4, nf5, nf6⟩ := cells7 (block_below hBk6 hn1)
    go_simp
    go_wp2_with fail
    clear nc0 nc1 nc2 nc3 nc4 nc5 nc6 nf0 nf1 nf2 nf3 nf4 nf5 nf6
    refine hK_.out _ _ (fun h_ => absurd rfl h_) (fun hHeld_13_3 => ?_)
    clear hK_
    try simp only [Act.put, List.setIfInBounds_toArray, List.set_cons_zero, List.set_cons_succ]
    refine wpTill_done (by kernel_rfl) ?_ _
    skip
    have hT40 := below_then hT1 hBk6
    have hn40 := block_below hBk6 hn1
    have hr40 := block_below hBk6 hr1
    have hle40 := hT1.size
    have hlr40 := (Array.getElem?_eq_some_iff.1 hr1).1
    have hs40 : FSl w6 (Gap P w.heap.size (w.heap.size + 2)) A6 k c6 Gs := FSl.own (show FOwn w6 _ A6 _ c6 (fs.take k ++ fs.drop (k + 1)) by rw [Hdn.out]; exact hown6) ((Hds.out.mono (fun b hb hp => ⟨hp, .inl hb⟩)).to hT40) (by omega) (fun b hb => gap_up hP (by omega) b (by omega))
    clear hown5 hown6 hc5 hc6 hB5 hB6 hBk5 hBk6 hB05 hBd hBd2 hn1 hr1 hT1 hle40 hlr40
    obtain ⟨w41, hw41⟩ : ∃ w_, w6.setCell ⟨w.heap.size, 0, none⟩ (.slice A6 k c6) = w_ := ⟨_, rfl⟩
    have hG41 : w6.grownBy w41 (some w.heap.size) := by rw [← hw41]; exact grown_setAt _ _ _ _
    have hT41 := below_g hT40 hG41 (by omega)
    have hn41 : w41.heap[w.heap.size]? = some (.cells #[.slice A6 k c6, .slice la lm lc, .int .i64 kk.t, .int .i64 kk.r, .int .i64 kk.s, .int .i64 kk.q, .slice ga gm gc] 27) := by rw [← hw41]; exact set0_obj7 hn40 _
    have hr41 := other_g hG41 hr40 (by omega)
    have hs41 := FSl.grow hs40 hG41 (gap_not (by omega) (by omega))
    rw [hw41]
    clear hw41 hG41 hT40 hn40 hr40 hs40
    obtain ⟨nc0, nc1, nc2, nc3, nc4, nc5, nc6⟩ := cells7' hn41
    obtain ⟨rc0, rc1, rc2, rc3, rc4, rc5, rc6⟩ := cells7' hr41
    go_wp2_with fail
    clear nc0 nc1 nc2 nc3 nc4 nc5 nc6 rc0 rc1 rc2 rc3 rc4 rc5 rc6
    refine (refStep_any kk d 1 Hd.out hkk w41).mono ?_
    rintro e w42 ⟨rfl, hB42⟩
    have hT42 := below_then hT41 hB42
    have hn42 := block_below hB42 hn41
    have hr42 := block_below hB42 hr41
    have hs42 := FSl.to hs41 hB42
    clear hT41 hn41 hr41 hs41 hB42
    obtain ⟨⟨nc0, nc1, nc2, nc3, nc4, nc5, nc6⟩, nf0, nf1, nf2, nf3, nf4, nf5, nf6⟩ := cells7 hn42
    obtain ⟨⟨rc0, rc1, rc2, rc3, rc4, rc5, rc6⟩, rf0, rf1, rf2, rf3, rf4, rf5, rf6⟩ := cells7 hr42
    go_wp2_with fail
    clear nc0 nc1 nc2 nc3 nc4 nc5 nc6 nf0 nf1 nf2 nf3 nf4 nf5 nf6 rc0 rc1 rc2 rc3 rc4 rc5 rc6 rf0 rf1 rf2 rf3 rf4 rf5 rf6
    exact bodyPost_ret (v := NV.v ⟨A6, k, c6, la, lm, lc, d, ga, gm, gc⟩) (results_n (n := ⟨A6, k, c6, la, lm, lc, d, ga, gm, gc⟩) rfl _ rfl (set7_obj (other_g (set25_grown _ _ _ _ _ _) hr42 (by omega)) _ _ _ _ _ _ _)) rfl ⟨⟨A6, k, c6, la, lm, lc, d, ga, gm, gc⟩, rfl, ⟨((hs42.grow (set25_grown _ _ _ _ _ _) (gap_not (Nat.le_refl _) (by omega))).grow (set7_grown _ _ _ _ _ _ _ _ _) (gap_not (by omega) (by omega))).ungap, hnis.l.to (below_g (below_g hT42 (set25_grown _ _ _ _ _ _) (Nat.le_refl _)) (set7_grown _ _ _ _ _ _ _ _ _) (by omega)), HD.out, hnis.g.to (below_g (below_g hT42 (set25_grown _ _ _ _ _ _) (Nat.le_refl _)) (set7_grown _ _ _ _ _ _ _ _ _) (by omega))⟩, (below_g (below_g hT42 (set25_grown _ _ _ _ _ _) (Nat.le_refl _)) (set7_grown _ _ _ _ _ _ _ _ _) (by omega))⟩
  obtain ⟨w0, hw0⟩ : ∃ w0, ((w.alloc (.cells #[.slice (some ad) qm qc, .slice la lm lc, .int .i64 kk.t, .int .i64 kk.r, .int .i64 kk.s, .int .i64 kk.q, .slice ga gm gc] 27)).alloc (.cells #[.slice none 0 0, .slice none 0 0, .int .i64 0, .int .i64 0, .int .i64 0, .int .i64 0, .slice none 0 0] 27)) = w0 := ⟨_, rfl⟩
  have hT0 : Below w.heap.size w w0 := by rw [← hw0]; exact below_then (below_alloc1 _ _) (below_alloc1 _ _)
  have hn0 : w0.heap[w.heap.size]? = some (.cells #[.slice (some ad) qm qc, .slice la lm lc, .int .i64 kk.t, .int .i64 kk.r, .int .i64 kk.s, .int .i64 kk.q, .slice ga gm gc] 27) := by rw [← hw0]; exact block_below (below_alloc1 _ _) (World.alloc_heap_new _ _)
  have hr0 : w0.heap[(w.heap.size + 1)]? = some (.cells #[.slice none 0 0, .slice none 0 0, .int .i64 0, .int .i64 0, .int .i64 0, .int .i64 0, .slice none 0 0] 27) := by rw [← hw0]; exact alloc_at _ _ (by simp)
  have hs0 : w0.heap.size = w.heap.size + 2 := by rw [← hw0]; simp
  have Hs0 := Lib.hid hs0
  clear hs0
  obtain ⟨nc0, nc1, nc2, nc3, nc4, nc5, nc6⟩ := cells7' hn0
  obtain ⟨rc0, rc1, rc2, rc3, rc4, rc5, rc6⟩ := cells7' hr0
  go_enter Try.func26, Try.ntmps26
  go_wp2_with fail
  clear nc0 nc1 nc2 nc3 nc4 nc5 nc6 rc0 rc1 rc2 rc3 rc4 rc5 rc6
  clear hw0
  have hZ0 := Below.refl w0.heap.size w0
  refine (place_c (n := ⟨some ad, qm, qc, la, lm, lc, kk, ga, gm, gc⟩) (h.to hT0) Hok.out.okq (by show qm ≤ 1000; omega) k Hk.out).mono ?_
  rintro e w1 ⟨rfl, hB1⟩
  have hT1 := below_then hT0 hB1
  have hZ1 := below_then hZ0 hB1
  clear hZ0
  have hn1 := block_below hB1 hn0
  have hr1 := block_below hB1 hr0
  clear hT0 hn0 hr0  hB1
  obtain ⟨nc0, nc1, nc2, nc3, nc4, nc5, nc6⟩ := cells7' hn1
  obtain ⟨rc0, rc1, rc2, rc3, rc4, rc5, rc6⟩ := cells7' hr1
  go_wp2_with fail
  clear nc0 nc1 nc2 nc3 nc4 nc5 nc6 rc0 rc1 rc2 rc3 rc4 rc5 rc6
  have hBd2 : Below w1.heap.size w1 (w1.alloc (.cells #[] 30)).drew := below_then (below_alloc1 _ _) (below_drew1 _)
  have hBd := below_then hT1 hBd2
  refine wp_region_till 13 (S := fun W => W.cell? ⟨w.heap.size, 0, none⟩ = some (.slice (some ad) qm qc) ∧ W.cell? ⟨w.heap.size, 1, none⟩ = some (.slice la lm lc) ∧ W.cell? ⟨w.heap.size, 2, none⟩ = some (.int .i64 kk.t) ∧ W.cell? ⟨w.heap.size, 3, none⟩ = some (.int .i64 kk.r) ∧ W.cell? ⟨w.heap.size, 4, none⟩ = some (.int .i64 kk.s) ∧ W.cell? ⟨w.heap.size, 5, none⟩ = some (.int .i64 kk.q) ∧ W.cell? ⟨w.heap.size, 6, none⟩ = some (.slice ga gm gc)) (by kernel_rfl) (by exact cells7' (block_below (below_drew1 _) hn1)) (fun hHeld_ => ?_)
  refine wpTill_take (i := 1) (v := ?vT2_1_0_) 13 rfl rfl (by kernel_rfl) (by kernel_rfl) (by kernel_rfl) (fun _ _ _ h => h) (Or.inl ⟨by kernel_rfl, ?hyT2_1_0_⟩) (by assumption) (by kernel_rfl) ?restT2_1_0_
  case hyT2_1_0_ => (intro W_ hS_; (try dsimp only at hS_); go_simp; (try (with_reducible rfl)))
  try simp only [Act.put, List.setIfInBounds_toArray, List.set_cons_zero, List.set_cons_succ]
  refine wpTill_take (i := 2) (v := ?vT2_2_0_) 14 rfl rfl (by kernel_rfl) (by kernel_rfl) (by kernel_rfl) (fun _ _ _ h => h) (Or.inl ⟨by kernel_rfl, ?hyT2_2_0_⟩) (by assumption) (by kernel_rfl) ?restT2_2_0_
  case hyT2_2_0_ => (intro W_ hS_; (try dsimp only at hS_); go_simp; (try (with_reducible rfl)))
  try simp only [Act.put, List.setIfInBounds_toArray, List.set_cons_zero, List.set_cons_succ]
  refine wpTill_take (i := 3) (v := ?vT2_3_0_) 15 rfl rfl (by kernel_rfl) (by kernel_rfl) (by kernel_rfl) (fun _ _ _ h => h) (Or.inl ⟨by kernel_rfl, ?hyT2_3_0_⟩) (by assumption) (by kernel_rfl) ?restT2_3_0_
  case hyT2_3_0_ => (intro W_ hS_; (try dsimp only at hS_); go_simp; (try (with_reducible rfl)))
  try simp only [Act.put, List.setIfInBounds_toArray, List.set_cons_zero, List.set_cons_succ]
  refine wpTill_take (i := 4) (v := ?vT2_4_0_) 16 rfl rfl (by kernel_rfl) (by kernel_rfl) (by kernel_rfl) (fun _ _ _ h => h) (Or.inl ⟨by kernel_rfl, ?hyT2_4_0_⟩) (by assumption) (by kernel_rfl) ?restT2_4_0_
  case hyT2_4_0_ => (intro W_ hS_; (try dsimp only at hS_); go_simp; (try (with_reducible rfl)))
  try simp only [Act.put, List.setIfInBounds_toArray, List.set_cons_zero, List.set_cons_succ]
  refine wpTill_take (i := 6) (v := ?vT2_6_0_) 18 rfl rfl (by kernel_rfl) (by kernel_rfl) (by kernel_rfl) (fun _ _ _ h => h) (Or.inl ⟨by kernel_rfl, ?hyT2_6_0_⟩) (by assumption) (by kernel_rfl) ?restT2_6_0_
  case hyT2_6_0_ => (intro W_ hS_; (try dsimp only at hS_); go_simp; (try (with_reducible rfl)))
  try simp only [Act.put, List.setIfInBounds_toArray, List.set_cons_zero, List.set_cons_succ]
  refine wpTill_take (i := 7) (v := ?vT2_7_0_) 19 rfl rfl (by kernel_rfl) (by kernel_rfl) (by kernel_rfl) (fun _ _ _ h => h) (Or.inl ⟨by kernel_rfl, ?hyT2_7_0_⟩) (by assumption) (by kernel_rfl) ?restT2_7_0_
  case hyT2_7_0_ => (intro W_ hS_; (try dsimp only at hS_); go_simp; (try (with_reducible rfl)))
  try simp only [Act.put, List.setIfInBounds_toArray, List.set_cons_zero, List.set_cons_succ]
  refine wpTill_take (i := 8) (v := ?vT2_8_0_) 20 rfl rfl (by kernel_rfl) (by kernel_rfl) (by kernel_rfl) (fun _ _ _ h => h) (Or.inl ⟨by kernel_rfl, ?hyT2_8_0_⟩) (by assumption) (by kernel_rfl) ?restT2_8_0_
  case hyT2_8_0_ => (intro W_ hS_; (try dsimp only at hS_); go_simp; (try (with_reducible rfl)))
  try simp only [Act.put, List.setIfInBounds_toArray, List.set_cons_zero, List.set_cons_succ]
  refine wpTill_take (i := 9) (v := ?vT2_9_0_) 21 rfl rfl (by kernel_rfl) (by kernel_rfl) (by kernel_rfl) (fun _ _ _ h => h) (Or.inl ⟨by kernel_rfl, ?hyT2_9_0_⟩) (by assumption) (by kernel_rfl) ?restT2_9_0_
  case hyT2_9_0_ => (intro W_ hS_; (try dsimp only at hS_); go_simp; (try (with_reducible rfl)))
  try simp only [Act.put, List.setIfInBounds_toArray, List.set_cons_zero, List.set_cons_succ]
  refine wpTill_take (i := 10) (v := ?vT2_10_0_) 22 rfl rfl (by kernel_rfl) (by kernel_rfl) (by kernel_rfl) (fun _ _ _ h => h) (Or.inl ⟨by kernel_rfl, ?hyT2_10_0_⟩) (by assumption) (by kernel_rfl) ?restT2_10_0_
  case hyT2_10_0_ => (intro W_ hS_; (try dsimp only at hS_); go_simp; (try (with_reducible rfl)))
  try simp only [Act.put, List.setIfInBounds_toArray, List.set_cons_zero, List.set_cons_succ]
  refine wpTill_ready (rs := [0]) (by kernel_rfl) (by simp) ?_
  refine (AllTill.cons rfl (fun K_ hK_ => ?_) AllTill.nil)
  go_simp
  go_wp2_with fail
  refine hK_.out _ _ (fun _ => by exact cells7' (block_below hBd2 hn1)) (fun hHeld_0_0 => ?_)
  replace hHeld_0_0 := hHeld_0_0 (by decide)
  clear hK_
  try simp only [Act.put, List.setIfInBounds_toArray, List.set_cons_zero, List.set_cons_succ]
  refine wpTill_ready (rs := [5]) (by kernel_rfl) (by simp) ?_
  refine (AllTill.cons rfl (fun K_ hK_ => ?_) AllTill.nil)
  refine step_append_fr rfl _ _ rfl w1.heap.size _ 0 [] rfl (own_to (fown_empty w1 _ _ rfl (Nat.le_refl _)) (below_drew1 _)) _ _ _ _ (fs.take k) rfl Htl.out (hsl.below hBd) (by omega) hBd2.size 17 rfl ?_
  intro A5 c5 w5 hown5 hc5 hB5
  simp only [Nat.zero_add, List.nil_append] at hown5 hc5 ⊢
  have hBk5 : Below w1.heap.size w1 w5 := hBd2.trans hB5
  have hB05 := below_then hT1 hBk5
  refine hK_.out _ _ (fun _ => by exact cells7' (block_below hBk5 hn1)) (fun hHeld_5_1 => ?_)
  replace hHeld_5_1 := hHeld_5_1 (by decide)
  clear hK_
  try simp only [Act.put, List.setIfInBounds_toArray, List.set_cons_zero, List.set_cons_succ]
  refine wpTill_ready (rs := [11]) (by kernel_rfl) (by simp) ?_
  refine (AllTill.cons rfl (fun K_ hK_ => ?_) AllTill.nil)
  refine step_append_fr rfl _ _ rfl w1.heap.size _ k (fs.take k) rfl hown5 _ _ _ _ (fs.drop (k + 1)) rfl Hdl.out (by first | exact hsr.below hB05 | exact hsr'.below hB05) (by omega) hBk5.size 23 rfl ?_
  intro A6 c6 w6 hown6 hc6 hB6
  have hBk6 : Below w1.heap.size w1 w6 := hBk5.trans hB6
  refine hK_.out _ _ (fun _ => by exact cells7' (block_below hBk6 hn1)) (fun hHeld_11_2 => ?_)
  replace hHeld_11_2 := hHeld_11_2 (by decide)
  clear hK_
  try simp only [Act.put, List.setIfInBounds_toArray, List.set_cons_zero, List.set_cons_succ]
  refine wpTill_take (i := 12) (v := ?vT2_12_3_0_5_11) 24 rfl rfl (by kernel_rfl) (by kernel_rfl) (by kernel_rfl) (fun _ _ _ h => h) (Or.inl ⟨by kernel_rfl, ?hyT2_12_3_0_5_11⟩) (by assumption) (by kernel_rfl) ?restT2_12_3_0_5_11
  case hyT2_12_3_0_5_11 => (intro W_ hS_; (try dsimp only at hS_); go_simp; (try (with_reducible rfl)))
  try simp only [Act.put, List.setIfInBounds_toArray, List.set_cons_zero, List.set_cons_succ]
  refine wpTill_ready (rs := [13]) (by kernel_rfl) (by simp) ?_
  refine (AllTill.cons rfl (fun K_ hK_ => ?_) AllTill.nil)
  obtain ⟨⟨nc0, nc1, nc2, nc3, nc4, nc5, nc6⟩, nf0, nf1, nf2, nf3, nf4, nf5, nf6⟩ := cells7 (block_below hBk6 hn1)
  go_simp
  go_wp2_with fail
  clear nc0 nc1 nc2 nc3 nc4 nc5 nc6 nf0 nf1 nf2 nf3 nf4 nf5 nf6
  refine hK_.out _ _ (fun h_ => absurd rfl h_) (fun hHeld_13_3 => ?_)
  clear hK_
  try simp only [Act.put, List.setIfInBounds_toArray, List.set_cons_zero, List.set_cons_succ]
  refine wpTill_done (by kernel_rfl) ?_ _
  skip
  have hT40 := below_then hT1 hBk6
  have hn40 := block_below hBk6 hn1
  have hr40 := block_below hBk6 hr1
  have hle40 := hT1.size
  have hlr40 := (Array.getElem?_eq_some_iff.1 hr1).1
  have hs40 : FSl w6 (Gap P w.heap.size (w.heap.size + 2)) A6 (k + (qm - (k + 1))) c6 Gs := FSl.own hown6 ((Hds.out.mono (fun b hb hp => ⟨hp, .inl hb⟩)).to hT40) (by omega) (fun b hb => gap_up hP (by omega) b (by omega))
  clear hown5 hown6 hc5 hc6 hB5 hB6 hBk5 hBk6 hB05 hBd hBd2 hn1 hr1 hT1 hle40 hlr40
  obtain ⟨w41, hw41⟩ : ∃ w_, w6.setCell ⟨w.heap.size, 0, none⟩ (.slice A6 (k + (qm - (k + 1))) c6) = w_ := ⟨_, rfl⟩
  have hG41 : w6.grownBy w41 (some w.heap.size) := by rw [← hw41]; exact grown_setAt _ _ _ _
  have hT41 := below_g hT40 hG41 (by omega)
  have hn41 : w41.heap[w.heap.size]? = some (.cells #[.slice A6 (k + (qm - (k + 1))) c6, .slice la lm lc, .int .i64 kk.t, .int .i64 kk.r, .int .i64 kk.s, .int .i64 kk.q, .slice ga gm gc] 27) := by rw [← hw41]; exact set0_obj7 hn40 _
  have hr41 := other_g hG41 hr40 (by omega)
  have hs41 := FSl.grow hs40 hG41 (gap_not (by omega) (by omega))
  rw [hw41]
  clear hw41 hG41 hT40 hn40 hr40 hs40
  obtain ⟨nc0, nc1, nc2, nc3, nc4, nc5, nc6⟩ := cells7' hn41
  obtain ⟨rc0, rc1, rc2, rc3, rc4, rc5, rc6⟩ := cells7' hr41
  go_wp2_with fail
  clear nc0 nc1 nc2 nc3 nc4 nc5 nc6 rc0 rc1 rc2 rc3 rc4 rc5 rc6
  refine (refStep_any kk d 1 Hd.out hkk w41).mono ?_
  rintro e w42 ⟨rfl, hB42⟩
  have hT42 := below_then hT41 hB42
  have hn42 := block_below hB42 hn41
  have hr42 := block_below hB42 hr41
  have hs42 := FSl.to hs41 hB42
  clear hT41 hn41 hr41 hs41 hB42
  obtain ⟨⟨nc0, nc1, nc2, nc3, nc4, nc5, nc6⟩, nf0, nf1, nf2, nf3, nf4, nf5, nf6⟩ := cells7 hn42
  obtain ⟨⟨rc0, rc1, rc2, rc3, rc4, rc5, rc6⟩, rf0, rf1, rf2, rf3, rf4, rf5, rf6⟩ := cells7 hr42
  go_wp2_with fail
  clear nc0 nc1 nc2 nc3 nc4 nc5 nc6 nf0 nf1 nf2 nf3 nf4 nf5 nf6 rc0 rc1 rc2 rc3 rc4 rc5 rc6 rf0 rf1 rf2 rf3 rf4 rf5 rf6
  exact bodyPost_ret (v := NV.v ⟨A6, (k + (qm - (k + 1))), c6, la, lm, lc, d, ga, gm, gc⟩) (results_n (n := ⟨A6, (k + (qm - (k + 1))), c6, la, lm, lc, d, ga, gm, gc⟩) rfl _ rfl (set7_obj (other_g (set25_grown _ _ _ _ _ _) hr42 (by omega)) _ _ _ _ _ _ _)) rfl ⟨⟨A6, (k + (qm - (k + 1))), c6, la, lm, lc, d, ga, gm, gc⟩, rfl, ⟨((hs42.grow (set25_grown _ _ _ _ _ _) (gap_not (Nat.le_refl _) (by omega))).grow (set7_grown _ _ _ _ _ _ _ _ _) (gap_not (by omega) (by omega))).ungap, hnis.l.to (below_g (below_g hT42 (set25_grown _ _ _ _ _ _) (Nat.le_refl _)) (set7_grown _ _ _ _ _ _ _ _ _) (by omega)), HD.out, hnis.g.to (below_g (below_g hT42 (set25_grown _ _ _ _ _ _) (Nat.le_refl _)) (set7_grown _ _ _ _ _ _ _ _ _) (by omega))⟩, (below_g (below_g hT42 (set25_grown _ _ _ _ _ _) (Nat.le_refl _)) (set7_grown _ _ _ _ _ _ _ _ _) (by omega))⟩

theorem refSent_c {w : World} {P : Nat → Prop} {n : NV} {N : NC} (h : NIs w P n N) (hok : OkN N) (hP : ∀ b, w.heap.size ≤ b → P b) (ok : Bool) (M : NC) (hM : sentN N ok = M) :
    Calls Try.prog 26 #[n.v, .bool ok] w fun e w' => ∃ n' : NV, e = .returned n'.v ∧ NIs w' P n' M ∧ Below w.heap.size w w' := by
  subst hM
  cases hq : hasN N with
  | false => rw [show sentN N ok = N by unfold sentN; rw [hq]; rfl]; exact refSent_none h hok hP ok hq
  | true =>
    cases ok with
    | false => rw [show sentN N false = ⟨N.q, N.l, stepV N.k 3, N.g⟩ by unfold sentN; rw [hq]; rfl]; exact refSent_no h hok hP hq
    | true => rw [show sentN N true = ⟨N.q.eraseIdx (atN N), N.l, stepV N.k 1, N.g⟩ by unfold sentN; rw [hq]; rfl]; exact refSent_yes h hok hP hq

end Go.Proofs.Ytlbgilbigcnleaa
