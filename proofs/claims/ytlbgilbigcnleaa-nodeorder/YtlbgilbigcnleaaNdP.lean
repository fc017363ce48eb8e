/-
  isOff, counted, nextAt, New, Right: the program.
-/
import Derived.Test.YtlbgilbigcnleaaNdN
import Derived.Test.YtlbgilbigcnleaaNdW
namespace Go.Proofs.Ytlbgilbigcnleaa
open Go.RowKit
set_option linter.unusedVariables false
set_option linter.unusedSimpArgs false

set_option maxRecDepth 100000 in
set_option maxHeartbeats 4000000 in
theorem cloneL_c {w : World} {P : Nat → Prop} {A : Option Addr} {n c : Nat} {ls : List FL} (h : LSl w P A n c ls) (hm : n ≤ 1000) (hP : ∀ b, w.heap.size ≤ b → P b) :
    Calls Try.prog 39 #[.slice A n c] w fun e w' => ∃ A' c', e = .returned (.slice A' n c') ∧ LSl w' P A' n c' ls ∧ Below w.heap.size w w' := by
  have qT : ∀ (w : World) (a : Option Addr) (n c n' c' : Nat), (binOp .eql 23 (.slice a n c) (.slice none n' c')).run Try.prog w = .ok (.bool a.isNone) w := fun w a n c n' c' => Lib.run_eql_slice_nil w _ _ a n c n' c' Try.underlying23
  cases A with
  | none =>
    have h0 : ls = [] := by
      rcases h.row with e | ⟨ad, e, _⟩
      · exact e
      · cases e
    subst h0
    have hn := h.len
    simp at hn
    subst hn
    go_enter Try.func39, Try.ntmps39
    go_wp2_with fail
    go_ret
    exact ⟨none, 0, rfl, LSl.none_, Below.refl _ _⟩
  | some ad =>
    go_enter Try.func39, Try.ntmps39
    go_wp2_with (at_builtin; refine wpList_append_fl _ rfl _ _ rfl w.heap.size _ 0 [] rfl (lown_empty w _ _ rfl (Nat.le_refl _)) (some ad) n c _ ls rfl h.len (h.row.to (below_alloc1 _ _)) (by omega) (by simp) ?_; intro A3 c3 w2 hown2 hc2 hB2)
    go_ret
    simp only [Nat.zero_add, List.nil_append] at hown2 hc2
    exact ⟨A3, c3, rfl, LSl.own hown2 hm h.wide hP, ((Below.refl _ w).alloc (Nat.le_refl _) _).trans hB2⟩

set_option maxRecDepth 100000 in
set_option maxHeartbeats 4000000 in
theorem isOff_c (n : NV) (q : Bool) (hq : decide (n.k.s = 3) = q) (w : World) :
    Calls Try.prog 47 #[n.v] w fun e w' => e = .returned (.bool q) ∧ Below w.heap.size w w' := by
  have Hq := Lib.hid (show (n.k.s == 3) = q from hq)
  clear hq
  obtain ⟨w0, hw0⟩ : ∃ w0, (w.alloc (.cells #[.slice n.qa n.qm n.qc, .slice n.la n.lm n.lc, .int .i64 n.k.t, .int .i64 n.k.r, .int .i64 n.k.s, .int .i64 n.k.q, .slice n.ga n.gm n.gc] 27)) = w0 := ⟨_, rfl⟩
  have hT0 : Below w.heap.size w w0 := by rw [← hw0]; exact below_alloc1 _ _
  have hn0 : w0.heap[w.heap.size]? = some (.cells #[.slice n.qa n.qm n.qc, .slice n.la n.lm n.lc, .int .i64 n.k.t, .int .i64 n.k.r, .int .i64 n.k.s, .int .i64 n.k.q, .slice n.ga n.gm n.gc] 27) := by rw [← hw0]; exact World.alloc_heap_new _ _
  have hs0 : w0.heap.size = w.heap.size + 1 := by rw [← hw0]; simp
  have Hs0 := Lib.hid hs0
  clear hs0
  obtain ⟨nc0, nc1, nc2, nc3, nc4, nc5, nc6⟩ := cells7' hn0
  go_enter Try.func47, Try.ntmps47
  go_wp2_with fail
  clear nc0 nc1 nc2 nc3 nc4 nc5 nc6
  clear hw0
  have hZ0 := Below.refl w0.heap.size w0
  go_ret
  exact ⟨ret_bool Hq.out, hT0⟩

set_option maxRecDepth 100000 in
set_option maxHeartbeats 4000000 in
theorem counted_c (n : NV) (d : CV) (what : Int) (hd : stepV n.k what = d) (hok : OkC n.k) (w : World) :
    Calls Try.prog 54 #[n.v, .int .i64 what] w fun e w' => e = .returned (NV.v ⟨n.qa, n.qm, n.qc, n.la, n.lm, n.lc, d, n.ga, n.gm, n.gc⟩) ∧ Below w.heap.size w w' := by
  have Hd := Lib.hid hd
  clear hd
  obtain ⟨w0, hw0⟩ : ∃ w0, ((w.alloc (.cells #[.slice n.qa n.qm n.qc, .slice n.la n.lm n.lc, .int .i64 n.k.t, .int .i64 n.k.r, .int .i64 n.k.s, .int .i64 n.k.q, .slice n.ga n.gm n.gc] 27)).alloc (.cells #[.slice none 0 0, .slice none 0 0, .int .i64 0, .int .i64 0, .int .i64 0, .int .i64 0, .slice none 0 0] 27)) = w0 := ⟨_, rfl⟩
  have hT0 : Below w.heap.size w w0 := by rw [← hw0]; exact below_then (below_alloc1 _ _) (below_alloc1 _ _)
  have hn0 : w0.heap[w.heap.size]? = some (.cells #[.slice n.qa n.qm n.qc, .slice n.la n.lm n.lc, .int .i64 n.k.t, .int .i64 n.k.r, .int .i64 n.k.s, .int .i64 n.k.q, .slice n.ga n.gm n.gc] 27) := by rw [← hw0]; exact block_below (below_alloc1 _ _) (World.alloc_heap_new _ _)
  have hr0 : w0.heap[(w.heap.size + 1)]? = some (.cells #[.slice none 0 0, .slice none 0 0, .int .i64 0, .int .i64 0, .int .i64 0, .int .i64 0, .slice none 0 0] 27) := by rw [← hw0]; exact alloc_at _ _ (by simp)
  have hs0 : w0.heap.size = w.heap.size + 2 := by rw [← hw0]; simp
  have Hs0 := Lib.hid hs0
  clear hs0
  obtain ⟨nc0, nc1, nc2, nc3, nc4, nc5, nc6⟩ := cells7' hn0
  obtain ⟨rc0, rc1, rc2, rc3, rc4, rc5, rc6⟩ := cells7' hr0
  go_enter Try.func54, Try.ntmps54
  go_wp2_with fail
  clear nc0 nc1 nc2 nc3 nc4 nc5 nc6 rc0 rc1 rc2 rc3 rc4 rc5 rc6
  clear hw0
  have hZ0 := Below.refl w0.heap.size w0
  refine (step1_any n.k d what Hd.out hok w0).mono ?_
  rintro e w1 ⟨rfl, hB1⟩
  have hT1 := below_then hT0 hB1
  have hZ1 := below_then hZ0 hB1
  clear hZ0
  have hn1 := block_below hB1 hn0
  have hr1 := block_below hB1 hr0
  clear hT0 hn0 hr0  hB1
  obtain ⟨⟨nc0, nc1, nc2, nc3, nc4, nc5, nc6⟩, nf0, nf1, nf2, nf3, nf4, nf5, nf6⟩ := cells7 hn1
  obtain ⟨⟨rc0, rc1, rc2, rc3, rc4, rc5, rc6⟩, rf0, rf1, rf2, rf3, rf4, rf5, rf6⟩ := cells7 hr1
  go_wp2_with fail
  clear nc0 nc1 nc2 nc3 nc4 nc5 nc6 nf0 nf1 nf2 nf3 nf4 nf5 nf6 rc0 rc1 rc2 rc3 rc4 rc5 rc6 rf0 rf1 rf2 rf3 rf4 rf5 rf6
  exact bodyPost_ret (v := NV.v ⟨n.qa, n.qm, n.qc, n.la, n.lm, n.lc, d, n.ga, n.gm, n.gc⟩) (results_n (n := ⟨n.qa, n.qm, n.qc, n.la, n.lm, n.lc, d, n.ga, n.gm, n.gc⟩) rfl _ rfl (set7_obj (other_g (set25_grown _ _ _ _ _ _) hr1 (by omega)) _ _ _ _ _ _ _)) rfl ⟨rfl, below_g (below_g hT1 (set25_grown _ _ _ _ _ _) (Nat.le_refl _)) (set7_grown _ _ _ _ _ _ _ _ _) (by omega)⟩

set_option maxRecDepth 100000 in
set_option maxHeartbeats 4000000 in
theorem nextAt_c {w : World} {P : Nat → Prop} {n : NV} {N : NC} (h : NIs w P n N) (hok : ∀ F ∈ N.q, okC F) (hm : n.qm ≤ 1000) (q : Bool) (hq : hasN N = q) (k : Nat) (hk : (if hasN N then atN N else 0) = k) :
    Calls Try.prog 50 #[n.v] w fun e w' => e = .returned (.tuple #[.int .i64 k, .bool q]) ∧ Below w.heap.size w w' := by
  rw [hq] at hk
  unfold hasN at hq
  rw [← h.k] at hq
  have hl := h.q.len
  by_cases hoff : n.k.s = 3
  · skip
    rw [decide_eq_false (by simpa using hoff), Bool.false_and] at hq
    subst hq
    obtain rfl : 0 = k := hk
    have Hoff := Lib.hid hoff
    clear hoff
    obtain ⟨w0, hw0⟩ : ∃ w0, (w.alloc (.cells #[.slice n.qa n.qm n.qc, .slice n.la n.lm n.lc, .int .i64 n.k.t, .int .i64 n.k.r, .int .i64 n.k.s, .int .i64 n.k.q, .slice n.ga n.gm n.gc] 27)) = w0 := ⟨_, rfl⟩
    have hT0 : Below w.heap.size w w0 := by rw [← hw0]; exact below_alloc1 _ _
    have hn0 : w0.heap[w.heap.size]? = some (.cells #[.slice n.qa n.qm n.qc, .slice n.la n.lm n.lc, .int .i64 n.k.t, .int .i64 n.k.r, .int .i64 n.k.s, .int .i64 n.k.q, .slice n.ga n.gm n.gc] 27) := by rw [← hw0]; exact World.alloc_heap_new _ _
    have hs0 : w0.heap.size = w.heap.size + 1 := by rw [← hw0]; simp
    have Hs0 := Lib.hid hs0
    clear hs0
    obtain ⟨nc0, nc1, nc2, nc3, nc4, nc5, nc6⟩ := cells7' hn0
    go_enter Try.func50, Try.ntmps50
    go_wp2_with fail
    clear nc0 nc1 nc2 nc3 nc4 nc5 nc6
    clear hw0
    have hZ0 := Below.refl w0.heap.size w0
    refine (isOff_c n true (by simpa using Hoff.out) w0).mono ?_
    rintro e w1 ⟨rfl, hB1⟩
    have hT1 := below_then hT0 hB1
    have hZ1 := below_then hZ0 hB1
    clear hZ0
    have hn1 := block_below hB1 hn0
    clear hT0 hn0  hB1
    obtain ⟨nc0, nc1, nc2, nc3, nc4, nc5, nc6⟩ := cells7' hn1
    go_wp2_with fail
    go_ret2
    exact ⟨rfl, hT1⟩
  rw [decide_eq_true (by simpa using hoff), Bool.true_and] at hq
  by_cases h0 : n.qm = 0
  · skip
    have hq2 : q = false := by rw [← hq]; simp; exact List.eq_nil_of_length_eq_zero (hl.trans h0)
    subst hq2
    obtain rfl : 0 = k := hk
    clear hq
    have d1 : ((n.qm : Int) == 0) = true := by simp; omega
    have d2 : (n.qm == 0) = true := by simp; omega
    have Hoff := Lib.hid hoff
    clear hoff h0
    obtain ⟨w0, hw0⟩ : ∃ w0, (w.alloc (.cells #[.slice n.qa n.qm n.qc, .slice n.la n.lm n.lc, .int .i64 n.k.t, .int .i64 n.k.r, .int .i64 n.k.s, .int .i64 n.k.q, .slice n.ga n.gm n.gc] 27)) = w0 := ⟨_, rfl⟩
    have hT0 : Below w.heap.size w w0 := by rw [← hw0]; exact below_alloc1 _ _
    have hn0 : w0.heap[w.heap.size]? = some (.cells #[.slice n.qa n.qm n.qc, .slice n.la n.lm n.lc, .int .i64 n.k.t, .int .i64 n.k.r, .int .i64 n.k.s, .int .i64 n.k.q, .slice n.ga n.gm n.gc] 27) := by rw [← hw0]; exact World.alloc_heap_new _ _
    have hs0 : w0.heap.size = w.heap.size + 1 := by rw [← hw0]; simp
    have Hs0 := Lib.hid hs0
    clear hs0
    obtain ⟨nc0, nc1, nc2, nc3, nc4, nc5, nc6⟩ := cells7' hn0
    go_enter Try.func50, Try.ntmps50
    go_wp2_with fail
    clear nc0 nc1 nc2 nc3 nc4 nc5 nc6
    clear hw0
    have hZ0 := Below.refl w0.heap.size w0
    refine (isOff_c n false (by simpa using Hoff.out) w0).mono ?_
    rintro e w1 ⟨rfl, hB1⟩
    have hT1 := below_then hT0 hB1
    have hZ1 := below_then hZ0 hB1
    clear hZ0
    have hn1 := block_below hB1 hn0
    clear hT0 hn0  hB1
    obtain ⟨nc0, nc1, nc2, nc3, nc4, nc5, nc6⟩ := cells7' hn1
    go_wp2_with fail
    go_ret2
    exact ⟨rfl, hT1⟩
  have hq2 : q = true := by rw [← hq]; simp; intro e; rw [e] at hl; simp at hl; omega
  subst hq2
  have hk2 : leastTo N.q n.qm = k := by rw [← hk, if_pos rfl]; unfold atN; rw [hl]
  have Hk := Lib.hid hk2
  clear hk hk2 hq
  have d1 : ((n.qm : Int) == 0) = false := by simp; omega
  have d2 : (n.qm == 0) = false := by simp; omega
  obtain ⟨w0, hw0⟩ : ∃ w0, (w.alloc (.cells #[.slice n.qa n.qm n.qc, .slice n.la n.lm n.lc, .int .i64 n.k.t, .int .i64 n.k.r, .int .i64 n.k.s, .int .i64 n.k.q, .slice n.ga n.gm n.gc] 27)) = w0 := ⟨_, rfl⟩
  have hT0 : Below w.heap.size w w0 := by rw [← hw0]; exact below_alloc1 _ _
  have hn0 : w0.heap[w.heap.size]? = some (.cells #[.slice n.qa n.qm n.qc, .slice n.la n.lm n.lc, .int .i64 n.k.t, .int .i64 n.k.r, .int .i64 n.k.s, .int .i64 n.k.q, .slice n.ga n.gm n.gc] 27) := by rw [← hw0]; exact World.alloc_heap_new _ _
  have hs0 : w0.heap.size = w.heap.size + 1 := by rw [← hw0]; simp
  have Hs0 := Lib.hid hs0
  clear hs0
  obtain ⟨nc0, nc1, nc2, nc3, nc4, nc5, nc6⟩ := cells7' hn0
  go_enter Try.func50, Try.ntmps50
  go_wp2_with fail
  clear nc0 nc1 nc2 nc3 nc4 nc5 nc6
  clear hw0
  have hZ0 := Below.refl w0.heap.size w0
  refine (isOff_c n false (by simpa using hoff) w0).mono ?_
  rintro e w1 ⟨rfl, hB1⟩
  have hT1 := below_then hT0 hB1
  have hZ1 := below_then hZ0 hB1
  clear hZ0
  have hn1 := block_below hB1 hn0
  clear hT0 hn0  hB1
  obtain ⟨nc0, nc1, nc2, nc3, nc4, nc5, nc6⟩ := cells7' hn1
  go_wp2_with fail
  clear nc0 nc1 nc2 nc3 nc4 nc5 nc6
  refine (firstLeast_c (h.q.to hT1) hok (by omega) hm).mono ?_
  rintro e w2 ⟨rfl, hB2⟩
  have hT2 := below_then hT1 hB2
  have hZ2 := below_then hZ1 hB2
  clear hZ1
  have hn2 := block_below hB2 hn1
  clear hT1 hn1  hB2
  rw [Hk.out]
  obtain ⟨nc0, nc1, nc2, nc3, nc4, nc5, nc6⟩ := cells7' hn2
  go_wp2_with fail
  go_ret2
  exact ⟨rfl, hT2⟩

set_option maxRecDepth 100000 in
set_option maxHeartbeats 4000000 in
theorem new_c {w : World} {P : Nat → Prop} {A : Option Addr} {n c : Nat} {ls : List FL} (h : LSl w P A n c ls) (hm : n ≤ 1000) (hP : ∀ b, w.heap.size ≤ b → P b) (er : Int) (her : newE ls = er) (N : NC) (hN : newN ls = N) :
    Calls Try.prog 13 #[.slice A n c] w fun e w' => ∃ n' : NV, e = .returned (.tuple #[n'.v, .int .i64 er]) ∧ NIs w' P n' N ∧ Below w.heap.size w w' := by
  obtain ⟨q, hq⟩ : ∃ q, rightLs 8 ls = q := ⟨_, rfl⟩
  have Hq := Lib.hid hq
  unfold newE rightLk at her
  unfold newN rightLk at hN
  rw [hq] at her hN
  clear hq
  cases q
  · skip
    obtain rfl : 1 = er := her
    obtain rfl : zeroN = N := hN
    obtain ⟨w0, hw0⟩ : ∃ w0, (w.alloc (.cells #[.slice none 0 0, .slice none 0 0, .int .i64 0, .int .i64 0, .int .i64 0, .int .i64 0, .slice none 0 0] 27)) = w0 := ⟨_, rfl⟩
    have hT0 : Below w.heap.size w w0 := by rw [← hw0]; exact below_alloc1 _ _
    have hr0 : w0.heap[w.heap.size]? = some (.cells #[.slice none 0 0, .slice none 0 0, .int .i64 0, .int .i64 0, .int .i64 0, .int .i64 0, .slice none 0 0] 27) := by rw [← hw0]; exact World.alloc_heap_new _ _
    have hs0 : w0.heap.size = w.heap.size + 1 := by rw [← hw0]; simp
    have Hs0 := Lib.hid hs0
    clear hs0
    obtain ⟨rc0, rc1, rc2, rc3, rc4, rc5, rc6⟩ := cells7' hr0
    go_enter Try.func13, Try.ntmps13
    go_wp2_with fail
    clear rc0 rc1 rc2 rc3 rc4 rc5 rc6
    clear hw0
    have hZ0 := Below.refl w0.heap.size w0
    refine (fitsL_c (h.to hT0) 8 8 rfl (by omega) false Hq.out).mono ?_
    rintro e w1 ⟨rfl, hB1⟩
    have hT1 := below_then hT0 hB1
    have hZ1 := below_then hZ0 hB1
    clear hZ0
    have hr1 := block_below hB1 hr0
    clear hT0 hr0  hB1
    obtain ⟨⟨rc0, rc1, rc2, rc3, rc4, rc5, rc6⟩, rf0, rf1, rf2, rf3, rf4, rf5, rf6⟩ := cells7 hr1
    go_wp2_with fail
    clear rc0 rc1 rc2 rc3 rc4 rc5 rc6 rf0 rf1 rf2 rf3 rf4 rf5 rf6
    exact bodyPost_ret (v := .tuple #[NV.v zeroNV, .int .i64 1]) (results_n1 (n := zeroNV) (u := .int .i64 1) rfl _ rfl rfl (set7_obj hr1 _ _ _ _ _ _ _)) rfl (⟨zeroNV, rfl, nis_zero, (below_g hT1 (set7_grown _ _ _ _ _ _ _ _ _) (by omega))⟩)
  obtain rfl : 0 = er := her
  obtain rfl : (⟨[], ls, newV, []⟩ : NC) = N := hN
  obtain ⟨w0, hw0⟩ : ∃ w0, (w.alloc (.cells #[.slice none 0 0, .slice none 0 0, .int .i64 0, .int .i64 0, .int .i64 0, .int .i64 0, .slice none 0 0] 27)) = w0 := ⟨_, rfl⟩
  have hT0 : Below w.heap.size w w0 := by rw [← hw0]; exact below_alloc1 _ _
  have hr0 : w0.heap[w.heap.size]? = some (.cells #[.slice none 0 0, .slice none 0 0, .int .i64 0, .int .i64 0, .int .i64 0, .int .i64 0, .slice none 0 0] 27) := by rw [← hw0]; exact World.alloc_heap_new _ _
  have hs0 : w0.heap.size = w.heap.size + 1 := by rw [← hw0]; simp
  have Hs0 := Lib.hid hs0
  clear hs0
  obtain ⟨rc0, rc1, rc2, rc3, rc4, rc5, rc6⟩ := cells7' hr0
  go_enter Try.func13, Try.ntmps13
  go_wp2_with fail
  clear rc0 rc1 rc2 rc3 rc4 rc5 rc6
  clear hw0
  have hZ0 := Below.refl w0.heap.size w0
  refine (fitsL_c (h.to hT0) 8 8 rfl (by omega) true Hq.out).mono ?_
  rintro e w1 ⟨rfl, hB1⟩
  have hT1 := below_then hT0 hB1
  have hZ1 := below_then hZ0 hB1
  clear hZ0
  have hr1 := block_below hB1 hr0
  clear hT0 hr0  hB1
  obtain ⟨⟨rc0, rc1, rc2, rc3, rc4, rc5, rc6⟩, rf0, rf1, rf2, rf3, rf4, rf5, rf6⟩ := cells7 hr1
  go_wp2_with fail
  clear rc0 rc1 rc2 rc3 rc4 rc5 rc6 rf0 rf1 rf2 rf3 rf4 rf5 rf6
  refine (cloneL_c ((h.gap (w.heap.size + 1)).to hT1) hm (fun b hb => gap_up hP (by omega) b (by have := hT1.size; have := Hs0.out; have := hr1; have := (Array.getElem?_eq_some_iff.1 hr1).1; omega))).mono ?_
  rintro e w2 ⟨A2, c2, rfl, hl_, hB2⟩
  have hT2 := below_then hT1 hB2
  have hZ2 := below_then hZ1 hB2
  clear hZ1
  have hr2 := block_below hB2 hr1
  clear hT1 hr1  hB2
  have hl2 := hl_
  clear hl_
  obtain ⟨⟨rc0, rc1, rc2, rc3, rc4, rc5, rc6⟩, rf0, rf1, rf2, rf3, rf4, rf5, rf6⟩ := cells7 hr2
  go_wp2_with fail
  clear rc0 rc1 rc2 rc3 rc4 rc5 rc6 rf0 rf1 rf2 rf3 rf4 rf5 rf6
  refine (new_any w2).mono ?_
  rintro e w3 ⟨rfl, hB3⟩
  have hT3 := below_then hT2 hB3
  have hZ3 := below_then hZ2 hB3
  clear hZ2
  have hr3 := block_below hB3 hr2
  have hl3 := LSl.to hl2 hB3
  clear hT2 hr2 hl2 hB3
  obtain ⟨⟨rc0, rc1, rc2, rc3, rc4, rc5, rc6⟩, rf0, rf1, rf2, rf3, rf4, rf5, rf6⟩ := cells7 hr3
  go_wp2_with fail
  clear rc0 rc1 rc2 rc3 rc4 rc5 rc6 rf0 rf1 rf2 rf3 rf4 rf5 rf6
  exact bodyPost_ret (v := .tuple #[NV.v ⟨none, 0, 0, A2, n, c2, newV, none, 0, 0⟩, .int .i64 0]) (results_n1 (n := ⟨none, 0, 0, A2, n, c2, newV, none, 0, 0⟩) (u := .int .i64 0) rfl _ rfl rfl (set7_obj hr3 _ _ _ _ _ _ _)) rfl (⟨⟨none, 0, 0, A2, n, c2, newV, none, 0, 0⟩, rfl, ⟨FSl.none_, (hl3.grow (set7_grown _ _ _ _ _ _ _ _ _) (gap_not (Nat.le_refl _) (by omega))).mono (fun _ _ hp => hp.1), rfl, FSl.none_⟩, (below_g hT3 (set7_grown _ _ _ _ _ _ _ _ _) (by omega))⟩)

set_option maxRecDepth 100000 in
set_option maxHeartbeats 4000000 in
theorem right_c {w : World} {P : Nat → Prop} {n : NV} {N : NC} (h : NIs w P n N) (q : Bool) (hq : rightN N = q) :
    Calls Try.prog 15 #[n.v] w fun e w' => e = .returned (.bool q) ∧ Below w.heap.size w w' := by
  unfold rightN at hq
  obtain ⟨q1, h1⟩ : ∃ q, rightFs 16 N.q = q := ⟨_, rfl⟩
  obtain ⟨q2, h2⟩ : ∃ q, rightFs 64 N.g = q := ⟨_, rfl⟩
  obtain ⟨q3, h3⟩ : ∃ q, rightLs 8 N.l = q := ⟨_, rfl⟩
  obtain ⟨q4, h4⟩ : ∃ q, rightV_NCn N.k = q := ⟨_, rfl⟩
  rw [h1, h2, h3, h4] at hq
  have H1 := Lib.hid h1
  have H2 := Lib.hid h2
  have H3 := Lib.hid h3
  have H4 := Lib.hid (show rightV_NCn n.k = q4 by rw [h.k]; exact h4)
  clear h1 h2 h3 h4
  subst hq
  cases q1
  · skip
    obtain ⟨w0, hw0⟩ : ∃ w0, (w.alloc (.cells #[.slice n.qa n.qm n.qc, .slice n.la n.lm n.lc, .int .i64 n.k.t, .int .i64 n.k.r, .int .i64 n.k.s, .int .i64 n.k.q, .slice n.ga n.gm n.gc] 27)) = w0 := ⟨_, rfl⟩
    have hT0 : Below w.heap.size w w0 := by rw [← hw0]; exact below_alloc1 _ _
    have hn0 : w0.heap[w.heap.size]? = some (.cells #[.slice n.qa n.qm n.qc, .slice n.la n.lm n.lc, .int .i64 n.k.t, .int .i64 n.k.r, .int .i64 n.k.s, .int .i64 n.k.q, .slice n.ga n.gm n.gc] 27) := by rw [← hw0]; exact World.alloc_heap_new _ _
    have hs0 : w0.heap.size = w.heap.size + 1 := by rw [← hw0]; simp
    have Hs0 := Lib.hid hs0
    clear hs0
    obtain ⟨nc0, nc1, nc2, nc3, nc4, nc5, nc6⟩ := cells7' hn0
    go_enter Try.func15, Try.ntmps15
    go_wp2_with fail
    clear nc0 nc1 nc2 nc3 nc4 nc5 nc6
    clear hw0
    have hZ0 := Below.refl w0.heap.size w0
    refine (fitsF_c (h.q.to hT0) 16 16 rfl (by omega) false H1.out).mono ?_
    rintro e w1 ⟨rfl, hB1⟩
    have hT1 := below_then hT0 hB1
    have hZ1 := below_then hZ0 hB1
    clear hZ0
    have hn1 := block_below hB1 hn0
    clear hT0 hn0  hB1
    obtain ⟨nc0, nc1, nc2, nc3, nc4, nc5, nc6⟩ := cells7' hn1
    go_wp2_with fail
    go_ret
    exact ⟨ret_bool (by simp), hT1⟩
  cases q2
  · skip
    obtain ⟨w0, hw0⟩ : ∃ w0, (w.alloc (.cells #[.slice n.qa n.qm n.qc, .slice n.la n.lm n.lc, .int .i64 n.k.t, .int .i64 n.k.r, .int .i64 n.k.s, .int .i64 n.k.q, .slice n.ga n.gm n.gc] 27)) = w0 := ⟨_, rfl⟩
    have hT0 : Below w.heap.size w w0 := by rw [← hw0]; exact below_alloc1 _ _
    have hn0 : w0.heap[w.heap.size]? = some (.cells #[.slice n.qa n.qm n.qc, .slice n.la n.lm n.lc, .int .i64 n.k.t, .int .i64 n.k.r, .int .i64 n.k.s, .int .i64 n.k.q, .slice n.ga n.gm n.gc] 27) := by rw [← hw0]; exact World.alloc_heap_new _ _
    have hs0 : w0.heap.size = w.heap.size + 1 := by rw [← hw0]; simp
    have Hs0 := Lib.hid hs0
    clear hs0
    obtain ⟨nc0, nc1, nc2, nc3, nc4, nc5, nc6⟩ := cells7' hn0
    go_enter Try.func15, Try.ntmps15
    go_wp2_with fail
    clear nc0 nc1 nc2 nc3 nc4 nc5 nc6
    clear hw0
    have hZ0 := Below.refl w0.heap.size w0
    refine (fitsF_c (h.q.to hT0) 16 16 rfl (by omega) true H1.out).mono ?_
    rintro e w1 ⟨rfl, hB1⟩
    have hT1 := below_then hT0 hB1
    have hZ1 := below_then hZ0 hB1
    clear hZ0
    have hn1 := block_below hB1 hn0
    clear hT0 hn0  hB1
    obtain ⟨nc0, nc1, nc2, nc3, nc4, nc5, nc6⟩ := cells7' hn1
    go_wp2_with fail
    clear nc0 nc1 nc2 nc3 nc4 nc5 nc6
    refine (fitsF_c (h.g.to hT1) 64 64 rfl (by omega) false H2.out).mono ?_
    rintro e w2 ⟨rfl, hB2⟩
    have hT2 := below_then hT1 hB2
    have hZ2 := below_then hZ1 hB2
    clear hZ1
    have hn2 := block_below hB2 hn1
    clear hT1 hn1  hB2
    obtain ⟨nc0, nc1, nc2, nc3, nc4, nc5, nc6⟩ := cells7' hn2
    go_wp2_with fail
    go_ret
    exact ⟨ret_bool (by simp), hT2⟩
  cases q3
  · skip
    obtain ⟨w0, hw0⟩ : ∃ w0, (w.alloc (.cells #[.slice n.qa n.qm n.qc, .slice n.la n.lm n.lc, .int .i64 n.k.t, .int .i64 n.k.r, .int .i64 n.k.s, .int .i64 n.k.q, .slice n.ga n.gm n.gc] 27)) = w0 := ⟨_, rfl⟩
    have hT0 : Below w.heap.size w w0 := by rw [← hw0]; exact below_alloc1 _ _
    have hn0 : w0.heap[w.heap.size]? = some (.cells #[.slice n.qa n.qm n.qc, .slice n.la n.lm n.lc, .int .i64 n.k.t, .int .i64 n.k.r, .int .i64 n.k.s, .int .i64 n.k.q, .slice n.ga n.gm n.gc] 27) := by rw [← hw0]; exact World.alloc_heap_new _ _
    have hs0 : w0.heap.size = w.heap.size + 1 := by rw [← hw0]; simp
    have Hs0 := Lib.hid hs0
    clear hs0
    obtain ⟨nc0, nc1, nc2, nc3, nc4, nc5, nc6⟩ := cells7' hn0
    go_enter Try.func15, Try.ntmps15
    go_wp2_with fail
    clear nc0 nc1 nc2 nc3 nc4 nc5 nc6
    clear hw0
    have hZ0 := Below.refl w0.heap.size w0
    refine (fitsF_c (h.q.to hT0) 16 16 rfl (by omega) true H1.out).mono ?_
    rintro e w1 ⟨rfl, hB1⟩
    have hT1 := below_then hT0 hB1
    have hZ1 := below_then hZ0 hB1
    clear hZ0
    have hn1 := block_below hB1 hn0
    clear hT0 hn0  hB1
    obtain ⟨nc0, nc1, nc2, nc3, nc4, nc5, nc6⟩ := cells7' hn1
    go_wp2_with fail
    clear nc0 nc1 nc2 nc3 nc4 nc5 nc6
    refine (fitsF_c (h.g.to hT1) 64 64 rfl (by omega) true H2.out).mono ?_
    rintro e w2 ⟨rfl, hB2⟩
    have hT2 := below_then hT1 hB2
    have hZ2 := below_then hZ1 hB2
    clear hZ1
    have hn2 := block_below hB2 hn1
    clear hT1 hn1  hB2
    obtain ⟨nc0, nc1, nc2, nc3, nc4, nc5, nc6⟩ := cells7' hn2
    go_wp2_with fail
    clear nc0 nc1 nc2 nc3 nc4 nc5 nc6
    refine (fitsL_c (h.l.to hT2) 8 8 rfl (by omega) false H3.out).mono ?_
    rintro e w3 ⟨rfl, hB3⟩
    have hT3 := below_then hT2 hB3
    have hZ3 := below_then hZ2 hB3
    clear hZ2
    have hn3 := block_below hB3 hn2
    clear hT2 hn2  hB3
    obtain ⟨nc0, nc1, nc2, nc3, nc4, nc5, nc6⟩ := cells7' hn3
    go_wp2_with fail
    go_ret
    exact ⟨ret_bool (by simp), hT3⟩
  obtain ⟨w0, hw0⟩ : ∃ w0, (w.alloc (.cells #[.slice n.qa n.qm n.qc, .slice n.la n.lm n.lc, .int .i64 n.k.t, .int .i64 n.k.r, .int .i64 n.k.s, .int .i64 n.k.q, .slice n.ga n.gm n.gc] 27)) = w0 := ⟨_, rfl⟩
  have hT0 : Below w.heap.size w w0 := by rw [← hw0]; exact below_alloc1 _ _
  have hn0 : w0.heap[w.heap.size]? = some (.cells #[.slice n.qa n.qm n.qc, .slice n.la n.lm n.lc, .int .i64 n.k.t, .int .i64 n.k.r, .int .i64 n.k.s, .int .i64 n.k.q, .slice n.ga n.gm n.gc] 27) := by rw [← hw0]; exact World.alloc_heap_new _ _
  have hs0 : w0.heap.size = w.heap.size + 1 := by rw [← hw0]; simp
  have Hs0 := Lib.hid hs0
  clear hs0
  obtain ⟨nc0, nc1, nc2, nc3, nc4, nc5, nc6⟩ := cells7' hn0
  go_enter Try.func15, Try.ntmps15
  go_wp2_with fail
  clear nc0 nc1 nc2 nc3 nc4 nc5 nc6
  clear hw0
  have hZ0 := Below.refl w0.heap.size w0
  refine (fitsF_c (h.q.to hT0) 16 16 rfl (by omega) true H1.out).mono ?_
  rintro e w1 ⟨rfl, hB1⟩
  have hT1 := below_then hT0 hB1
  have hZ1 := below_then hZ0 hB1
  clear hZ0
  have hn1 := block_below hB1 hn0
  clear hT0 hn0  hB1
  obtain ⟨nc0, nc1, nc2, nc3, nc4, nc5, nc6⟩ := cells7' hn1
  go_wp2_with fail
  clear nc0 nc1 nc2 nc3 nc4 nc5 nc6
  refine (fitsF_c (h.g.to hT1) 64 64 rfl (by omega) true H2.out).mono ?_
  rintro e w2 ⟨rfl, hB2⟩
  have hT2 := below_then hT1 hB2
  have hZ2 := below_then hZ1 hB2
  clear hZ1
  have hn2 := block_below hB2 hn1
  clear hT1 hn1  hB2
  obtain ⟨nc0, nc1, nc2, nc3, nc4, nc5, nc6⟩ := cells7' hn2
  go_wp2_with fail
  clear nc0 nc1 nc2 nc3 nc4 nc5 nc6
  refine (fitsL_c (h.l.to hT2) 8 8 rfl (by omega) true H3.out).mono ?_
  rintro e w3 ⟨rfl, hB3⟩
  have hT3 := below_then hT2 hB3
  have hZ3 := below_then hZ2 hB3
  clear hZ2
  have hn3 := block_below hB3 hn2
  clear hT2 hn2  hB3
  obtain ⟨nc0, nc1, nc2, nc3, nc4, nc5, nc6⟩ := cells7' hn3
  go_wp2_with fail
  clear nc0 nc1 nc2 nc3 nc4 nc5 nc6
  refine (right_q_NCn n.k q4 H4.out w3).mono ?_
  rintro e w4 ⟨rfl, hB4⟩
  have hT4 := below_then hT3 hB4
  have hZ4 := below_then hZ3 hB4
  clear hZ3
  have hn4 := block_below hB4 hn3
  clear hT3 hn3  hB4
  obtain ⟨nc0, nc1, nc2, nc3, nc4, nc5, nc6⟩ := cells7' hn4
  go_wp2_with fail
  go_ret
  exact ⟨ret_bool (by simp), hT4⟩

end Go.Proofs.Ytlbgilbigcnleaa
