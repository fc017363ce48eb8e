/-
  Frames: the document's Right, both Same, Great, One, a flag's bit.
-/
import Derived.Test.YtmapkjjglhpamaaFrs
namespace Go.Proofs.Ytmapkjjglhpamaa
open Go.RowKit

set_option maxRecDepth 100000 in
set_option maxHeartbeats 2000000 in
theorem refFrRight_at (x : Bool) (i : Int) (r : Bool) (n : Int) (A : Option Addr) (m c : Nat) (w : World) :
    Calls Try.prog 13 #[.agg #[.bool x, .int .i64 i, .bool r, .int .i64 n, .slice A m c]] w fun e w' => e = .returned (.bool (rightV x i r n m)) ∧ Below w.heap.size w w' := by
  have Hfin := Lib.hid (show Below w.heap.size w (w.alloc (.cells #[.bool x, .int .i64 i, .bool r, .int .i64 n, .slice A m c] 24)) from (Below.refl _ w).alloc (Nat.le_refl _) _)
  rcases dec (i < 0) with ⟨d1, h1⟩ | ⟨d1, h1⟩
  · cases x
    all_goals
      go_enter Try.func13, Try.ntmps13
      go_wp2_with fail
      go_ret
      exact ⟨ret_bool (by rw [Bool.eq_iff_iff]; simp [rightV]; omega), Hfin.out⟩
  · cases x
    · rcases dec (2048 ≤ i) with ⟨d2, h2⟩ | ⟨d2, h2⟩
      · go_enter Try.func13, Try.ntmps13
        go_wp2_with fail
        go_ret
        exact ⟨ret_bool (by rw [Bool.eq_iff_iff]; simp [rightV]; omega), Hfin.out⟩
      rcases dec (n < 0) with ⟨d3, h3⟩ | ⟨d3, h3⟩
      · go_enter Try.func13, Try.ntmps13
        go_wp2_with fail
        go_ret
        exact ⟨ret_bool (by rw [Bool.eq_iff_iff]; simp [rightV]; omega), Hfin.out⟩
      rcases dec (8 < n) with ⟨d4, h4⟩ | ⟨d4, h4⟩
      all_goals
        cases r
        all_goals
          go_enter Try.func13, Try.ntmps13
          go_wp2_with fail
          go_ret
          exact ⟨ret_bool (by rw [Bool.eq_iff_iff]; simp [rightV]; omega), Hfin.out⟩
    · rcases dec (536870912 ≤ i) with ⟨d2, h2⟩ | ⟨d2, h2⟩
      · go_enter Try.func13, Try.ntmps13
        go_wp2_with fail
        go_ret
        exact ⟨ret_bool (by rw [Bool.eq_iff_iff]; simp [rightV]; omega), Hfin.out⟩
      rcases dec (n < 0) with ⟨d3, h3⟩ | ⟨d3, h3⟩
      · go_enter Try.func13, Try.ntmps13
        go_wp2_with fail
        go_ret
        exact ⟨ret_bool (by rw [Bool.eq_iff_iff]; simp [rightV]; omega), Hfin.out⟩
      rcases dec (8 < n) with ⟨d4, h4⟩ | ⟨d4, h4⟩
      all_goals
        cases r
        all_goals
          go_enter Try.func13, Try.ntmps13
          go_wp2_with fail
          go_ret
          exact ⟨ret_bool (by rw [Bool.eq_iff_iff]; simp [rightV]; omega), Hfin.out⟩

theorem great_at (x : Bool) (i : Int) (r : Bool) (n : Int) (A : Option Addr) (m c : Nat) (w : World) :
    Calls Try.prog 12 #[.agg #[.bool x, .int .i64 i, .bool r, .int .i64 n, .slice A m c]] w fun e w' => e = .returned (.bool (decide (100 < m))) ∧ Below w.heap.size w w' := by
  have Hfin := Lib.hid (show Below w.heap.size w (w.alloc (.cells #[.bool x, .int .i64 i, .bool r, .int .i64 n, .slice A m c] 24)) from (Below.refl _ w).alloc (Nat.le_refl _) _)
  go_enter Try.func12, Try.ntmps12
  go_wp2_with fail
  go_ret
  exact ⟨ret_bool (by rw [Bool.eq_iff_iff]; simp; omega), Hfin.out⟩

theorem bitOf_at (b : Bool) (w : World) : Calls Try.prog 55 #[.bool b] w fun e w' => e = .returned (.int .i64 (flag b)) ∧ w = w' := by
  cases b
  all_goals
    go_enter Try.func55, Try.ntmps55
    go_wp2_with fail
    go_ret
    exact ⟨rfl, rfl⟩
theorem remote_at (x : Bool) (i : Int) (r : Bool) (n : Int) (A : Option Addr) (m c : Nat) (w : World) :
    Calls Try.prog 56 #[.agg #[.bool x, .int .i64 i, .bool r, .int .i64 n, .slice A m c]] w fun e w' => e = .returned (.int .i64 (flag r)) ∧ Below w.heap.size w w' := by
  have Hfin := Lib.hid (show Below w.heap.size w (w.alloc (.cells #[.bool x, .int .i64 i, .bool r, .int .i64 n, .slice A m c] 24)) from (Below.refl _ w).alloc (Nat.le_refl _) _)
  cases r
  all_goals
    go_enter Try.func56, Try.ntmps56
    go_wp2_with fail
    go_ret
    exact ⟨rfl, Hfin.out⟩

theorem equal_at (a b : List Int) (n m : Nat) (hn : a.length = n) (hm : b.length = m) (A A' : Option Addr) (c c' B B' : Nat) (w : World) (h : Row .u8 w B A a) (h' : Row .u8 w B' A' b) (ha : byteB a) (hb : byteB b) :
    Calls Try.prog 52 #[.slice A n c, .slice A' m c'] w fun e w' => e = .returned (.bool (sameB a b)) ∧ w = w' := by
  subst hn hm
  have h1 := run_conv w a A c B h
  have h2 := run_conv w b A' c' B' h'
  have HA := Lib.hid ha
  have HB := Lib.hid hb
  clear ha hb
  go_enter Try.func52, Try.ntmps52
  go_wp2
  go_ret
  refine ⟨ret_bool ?_, rfl⟩
  rw [ByteArray.toList_eq, ByteArray.toList_eq, strOfNums_data, strOfNums_data, Bool.eq_iff_iff]
  simp only [beq_iff_eq, sameB, decide_eq_true_eq]
  constructor
  · intro e
    refine strOfNums_inj HA.out HB.out ?_
    simp only [strOfNums, e]
  · rintro rfl
    rfl

set_option maxRecDepth 100000 in
theorem one_at (w : World) : Calls Try.prog 34 #[] w fun e w' => ∃ A, e = .returned (.agg #[.bool false, .int .i64 1, .bool false, .int .i64 1, .slice A 1 1]) ∧ Row .u8 w' w'.heap.size A [128] ∧ Below w.heap.size w w' := by
  have l1 := Row.lit (w.alloc (.cells #[.bool false, .int .i64 1, .bool false, .int .i64 1, .slice (some ⟨w.heap.size + 1, 0, none⟩) 1 1] 24)) .u8 [128] 5 (cs := #[.int .u8 128]) rfl
  have ho : ((w.alloc (.cells #[.bool false, .int .i64 1, .bool false, .int .i64 1, .slice (some ⟨w.heap.size + 1, 0, none⟩) 1 1] 24)).alloc (.cells #[.int .u8 128] 5)).heap[w.heap.size]? = some (.cells #[.bool false, .int .i64 1, .bool false, .int .i64 1, .slice (some ⟨w.heap.size + 1, 0, none⟩) 1 1] 24) :=
    (Below.heap_alloc _ _ _ (by simp)).trans (World.alloc_heap_new _ _)
  have L1 := Lib.hid l1
  have HO := Lib.hid ho
  clear l1 ho
  go_enter Try.func34, Try.ntmps34
  go_wp2_with fail
  refine bodyPost_ret (v := .agg #[.bool false, .int .i64 1, .bool false, .int .i64 1, .slice (some ⟨w.heap.size + 1, 0, none⟩) 1 1]) (results_fr rfl _ rfl HO.out) rfl ?_
  refine ⟨some ⟨w.heap.size + 1, 0, none⟩, rfl, ?_, ((Below.refl _ w).alloc (Nat.le_refl _) _).alloc (by simp) _⟩
  have := L1.out
  simpa using this

set_option maxRecDepth 100000 in
set_option maxHeartbeats 2000000 in
theorem frSame_at (x : Bool) (i : Int) (r : Bool) (n : Int) (a : List Int) (m : Nat) (hm : a.length = m) (A : Option Addr) (c : Nat) (x' : Bool) (i' : Int) (r' : Bool) (n' : Int) (b : List Int) (m' : Nat) (hm' : b.length = m') (A' : Option Addr) (c' : Nat) (w : World)
    (h : Row .u8 w w.heap.size A a) (h' : Row .u8 w w.heap.size A' b) (ha : byteB a) (hb : byteB b) (q : Bool) (hq : sameV x i r n a x' i' r' n' b = q) :
    Calls Try.prog 28 #[.agg #[.bool x, .int .i64 i, .bool r, .int .i64 n, .slice A m c], .agg #[.bool x', .int .i64 i', .bool r', .int .i64 n', .slice A' m' c']] w fun e w' => e = .returned (.bool q) ∧ Below w.heap.size w w' := by
  have Hfin := Lib.hid (show Below w.heap.size w ((w.alloc (.cells #[.bool x, .int .i64 i, .bool r, .int .i64 n, .slice A m c] 24)).alloc (.cells #[.bool x', .int .i64 i', .bool r', .int .i64 n', .slice A' m' c'] 24)) from ((Below.refl _ w).alloc (Nat.le_refl _) _).alloc (by simp) _)
  have h1 := (h.alloc (Nat.le_refl _) (.cells #[.bool x, .int .i64 i, .bool r, .int .i64 n, .slice A m c] 24)).alloc (by simp) (.cells #[.bool x', .int .i64 i', .bool r', .int .i64 n', .slice A' m' c'] 24)
  have h2 := (h'.alloc (Nat.le_refl _) (.cells #[.bool x, .int .i64 i, .bool r, .int .i64 n, .slice A m c] 24)).alloc (by simp) (.cells #[.bool x', .int .i64 i', .bool r', .int .i64 n', .slice A' m' c'] 24)
  have HM := Lib.hid hm
  have HM' := Lib.hid hm'
  have HA := Lib.hid ha
  have HB := Lib.hid hb
  have HQ := Lib.hid hq
  clear hm hm' ha hb hq h h'
  by_cases e1 : x = x'
  · subst e1
    by_cases e2 : i = i'
    · subst e2
      by_cases e3 : r = r'
      · subst e3
        by_cases e4 : n = n'
        · subst e4
          go_enter Try.func28, Try.ntmps28
          go_wp2_with fail
          refine (equal_at a b m m' HM.out HM'.out A A' c c' _ _ _ h1 h2 HA.out HB.out).mono ?_
          rintro e w' ⟨rfl, rfl⟩
          go_wp2_with fail
          go_ret
          exact ⟨ret_bool (by rw [← HQ.out, Bool.eq_iff_iff]; simp [sameB, sameV]), Hfin.out⟩
        · have d4 : (n == n') = false := by simp [e4]
          go_enter Try.func28, Try.ntmps28
          go_wp2_with fail
          go_ret
          exact ⟨ret_bool (by rw [← HQ.out, Bool.eq_iff_iff]; simp [sameV, e4]), Hfin.out⟩
      · have d3 : (r == r') = false := by simp [e3]
        go_enter Try.func28, Try.ntmps28
        go_wp2_with fail
        go_ret
        exact ⟨ret_bool (by rw [← HQ.out, Bool.eq_iff_iff]; simp [sameV, e3]), Hfin.out⟩
    · have d2 : (i == i') = false := by simp [e2]
      go_enter Try.func28, Try.ntmps28
      go_wp2_with fail
      go_ret
      exact ⟨ret_bool (by rw [← HQ.out, Bool.eq_iff_iff]; simp [sameV, e2]), Hfin.out⟩
  · have d1 : (x == x') = false := by simp [e1]
    go_enter Try.func28, Try.ntmps28
    go_wp2_with fail
    go_ret
    exact ⟨ret_bool (by rw [← HQ.out, Bool.eq_iff_iff]; simp [sameV, e1]), Hfin.out⟩

set_option maxRecDepth 100000 in
set_option maxHeartbeats 2000000 in
theorem refFrSame_at (x : Bool) (i : Int) (r : Bool) (n : Int) (a : List Int) (m : Nat) (hm : a.length = m) (A : Option Addr) (c : Nat) (x' : Bool) (i' : Int) (r' : Bool) (n' : Int) (b : List Int) (m' : Nat) (hm' : b.length = m') (A' : Option Addr) (c' : Nat) (w : World)
    (h : Row .u8 w w.heap.size A a) (h' : Row .u8 w w.heap.size A' b) (ha : byteB a) (hb : byteB b) (q : Bool) (hq : sameV x i r n a x' i' r' n' b = q) :
    Calls Try.prog 24 #[.agg #[.bool x, .int .i64 i, .bool r, .int .i64 n, .slice A m c], .agg #[.bool x', .int .i64 i', .bool r', .int .i64 n', .slice A' m' c']] w fun e w' => e = .returned (.bool q) ∧ Below w.heap.size w w' := by
  have Hfin := Lib.hid (show Below w.heap.size w ((w.alloc (.cells #[.bool x, .int .i64 i, .bool r, .int .i64 n, .slice A m c] 24)).alloc (.cells #[.bool x', .int .i64 i', .bool r', .int .i64 n', .slice A' m' c'] 24)) from ((Below.refl _ w).alloc (Nat.le_refl _) _).alloc (by simp) _)
  have h1 := (h.alloc (Nat.le_refl _) (.cells #[.bool x, .int .i64 i, .bool r, .int .i64 n, .slice A m c] 24)).alloc (by simp) (.cells #[.bool x', .int .i64 i', .bool r', .int .i64 n', .slice A' m' c'] 24)
  have h2 := (h'.alloc (Nat.le_refl _) (.cells #[.bool x, .int .i64 i, .bool r, .int .i64 n, .slice A m c] 24)).alloc (by simp) (.cells #[.bool x', .int .i64 i', .bool r', .int .i64 n', .slice A' m' c'] 24)
  have HM := Lib.hid hm
  have HM' := Lib.hid hm'
  have HA := Lib.hid ha
  have HB := Lib.hid hb
  have HQ := Lib.hid hq
  clear hm hm' ha hb hq h h'
  by_cases e1 : x = x'
  · subst e1
    by_cases e2 : i = i'
    · subst e2
      by_cases e3 : r = r'
      · subst e3
        by_cases e4 : n = n'
        · subst e4
          go_enter Try.func24, Try.ntmps24
          go_wp2_with fail
          refine (sameBytes_at a b m m' HM.out HM'.out A A' c c' _ _ _ h1 h2 HA.out HB.out).mono ?_
          rintro e w' ⟨rfl, rfl⟩
          go_wp2_with fail
          go_ret
          exact ⟨ret_bool (by rw [← HQ.out, Bool.eq_iff_iff]; simp [sameB, sameV]), Hfin.out⟩
        · have d4 : (n == n') = false := by simp [e4]
          go_enter Try.func24, Try.ntmps24
          go_wp2_with fail
          go_ret
          exact ⟨ret_bool (by rw [← HQ.out, Bool.eq_iff_iff]; simp [sameV, e4]), Hfin.out⟩
      · have d3 : (r == r') = false := by simp [e3]
        go_enter Try.func24, Try.ntmps24
        go_wp2_with fail
        go_ret
        exact ⟨ret_bool (by rw [← HQ.out, Bool.eq_iff_iff]; simp [sameV, e3]), Hfin.out⟩
    · have d2 : (i == i') = false := by simp [e2]
      go_enter Try.func24, Try.ntmps24
      go_wp2_with fail
      go_ret
      exact ⟨ret_bool (by rw [← HQ.out, Bool.eq_iff_iff]; simp [sameV, e2]), Hfin.out⟩
  · have d1 : (x == x') = false := by simp [e1]
    go_enter Try.func24, Try.ntmps24
    go_wp2_with fail
    go_ret
    exact ⟨ret_bool (by rw [← HQ.out, Bool.eq_iff_iff]; simp [sameV, e1]), Hfin.out⟩

end Go.Proofs.Ytmapkjjglhpamaa
