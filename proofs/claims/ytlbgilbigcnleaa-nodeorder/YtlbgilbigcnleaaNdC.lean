/-
  Rows of numbers that are compared as words: slices.Compare, and the document's Below.
-/
import Derived.Test.YtlbgilbigcnleaaNdB
namespace Go.Proofs.Ytlbgilbigcnleaa
open Go.RowKit
set_option linter.unusedVariables false
set_option linter.unusedSimpArgs false

/-- Does a stand ahead of b, as words? -/
def lexB : List Int → List Int → Bool
  | [], [] => false
  | [], _ :: _ => true
  | _ :: _, [] => false
  | a :: s, b :: t => if a = b then lexB s t else decide (a < b)
theorem lexB_at : ∀ (k : Nat) (a b : List Int) (x y : Int), a.take k = b.take k → a[k]? = some x → b[k]? = some y → x ≠ y → lexB a b = decide (x < y)
  | 0, [], _, _, _, _, h, _, _ => by simp at h
  | 0, _ :: _, [], _, _, _, _, h, _ => by simp at h
  | 0, a :: s, b :: t, x, y, _, h1, h2, hn => by
    simp at h1 h2
    subst h1 h2
    simp [lexB, hn]
  | k + 1, [], _, _, _, _, h, _, _ => by simp at h
  | k + 1, _ :: _, [], _, _, _, _, h, _ => by simp at h
  | k + 1, a :: s, b :: t, x, y, h, h1, h2, hn => by
    simp at h h1 h2
    simp only [lexB, h.1, if_true]
    exact lexB_at k s t x y h.2 h1 h2 hn
theorem lexB_right : ∀ (k : Nat) (a b : List Int), a.take k = b.take k → k < a.length → b.length ≤ k → lexB a b = false
  | 0, [], _, _, h, _ => by simp at h
  | 0, _ :: _, [], _, _, _ => rfl
  | 0, _ :: _, _ :: _, _, _, h => by simp at h
  | k + 1, [], _, _, h, _ => by simp at h
  | k + 1, _ :: _, [], h, _, _ => by simp at h
  | k + 1, a :: s, b :: t, h, h1, h2 => by
    simp at h h1 h2
    simp only [lexB, h.1, if_true]
    exact lexB_right k s t h.2 h1 h2
theorem lexB_left : ∀ (k : Nat) (a b : List Int), a.take k = b.take k → a.length = k → lexB a b = decide (k < b.length)
  | 0, [], [], _, _ => rfl
  | 0, [], _ :: _, _, _ => by simp [lexB]
  | 0, _ :: _, _, _, h => by simp at h
  | k + 1, [], _, _, h => by simp at h
  | k + 1, _ :: _, [], h, _ => by simp at h
  | k + 1, a :: s, b :: t, h, h1 => by
    simp at h h1
    simp only [lexB, h.1, if_true]
    rw [lexB_left k s t h.2 h1]
    simp
theorem lexB_irr : ∀ a : List Int, lexB a a = false
  | [] => rfl
  | a :: s => by simp [lexB, lexB_irr s]
theorem lexB_trans : ∀ a b c : List Int, lexB a b = true → lexB b c = true → lexB a c = true
  | [], [], _, h, _ => by cases h
  | [], _ :: _, [], _, h => by cases h
  | [], _ :: _, _ :: _, _, _ => rfl
  | _ :: _, [], _, h, _ => by cases h
  | _ :: _, _ :: _, [], _, h => by cases h
  | a :: s, b :: t, c :: u, h1, h2 => by
    simp only [lexB] at h1 h2 ⊢
    split at h1 <;> split at h2
    · rename_i e1 e2
      subst e1 e2
      simp [lexB_trans s t u h1 h2]
    · rename_i e1 e2
      subst e1
      rw [if_neg e2]; exact h2
    · rename_i e1 e2
      subst e2
      rw [if_neg e1]; exact h1
    · rename_i e1 e2
      simp only [decide_eq_true_eq] at h1 h2
      rw [if_neg (by omega)]
      simp; omega
theorem lexB_tri : ∀ a b : List Int, a = b ∨ lexB a b = true ∨ lexB b a = true
  | [], [] => .inl rfl
  | [], _ :: _ => .inr (.inl rfl)
  | _ :: _, [] => .inr (.inr rfl)
  | a :: s, b :: t => by
    by_cases e : a = b
    · subst e
      rcases lexB_tri s t with h | h | h
      · exact .inl (by rw [h])
      · exact .inr (.inl (by simp [lexB, h]))
      · exact .inr (.inr (by simp [lexB, h]))
    · right
      simp only [lexB, if_neg e, if_neg (Ne.symm e), decide_eq_true_eq]
      omega
theorem lexB_asym {a b : List Int} (h : lexB a b = true) : lexB b a = false := by
  cases h' : lexB b a
  · rfl
  · have := lexB_trans _ _ _ h h'
    rw [lexB_irr] at this; cases this

def cmpI (x y : Int) : Int := if x < y then -1 else if y < x then 1 else 0
theorem isNaN_any (x : Int) (w : World) :
    Calls Try.prog 84 #[.int .i64 x] w fun e w' => e = .returned (.bool false) ∧ Below w.heap.size w w' := by
  go_enter Try.func84, Try.ntmps84
  go_wp2_with fail
  go_ret
  exact ⟨by simp, Below.refl _ _⟩
set_option maxRecDepth 100000 in
theorem cmp_any (x y : Int) (w : World) :
    Calls Try.prog 79 #[.int .i64 x, .int .i64 y] w fun e w' => e = .returned (.int .i64 (cmpI x y)) ∧ Below w.heap.size w w' := by
  go_enter Try.func79, Try.ntmps79
  go_wp2_with fail
  refine (isNaN_any x w).mono ?_
  rintro e w1 ⟨rfl, hB1⟩
  go_wp2_with fail
  refine (isNaN_any y w1).mono ?_
  rintro e w2 ⟨rfl, hB2⟩
  have hB := below_then hB1 hB2
  by_cases h1 : x < y
  · have d1 : decide (x < y) = true := by simpa using h1
    have Hr := Lib.hid (show -1 = cmpI x y by unfold cmpI; rw [if_pos h1])
    go_wp2_with fail
    go_ret
    exact ⟨ret_int Hr.out, hB⟩
  · have d1 : decide (x < y) = false := by simpa using h1
    by_cases h2 : y < x
    · have d2 : decide (y < x) = true := by simpa using h2
      have Hr := Lib.hid (show 1 = cmpI x y by unfold cmpI; rw [if_neg h1, if_pos h2])
      go_wp2_with fail
      go_ret
      exact ⟨ret_int Hr.out, hB⟩
    · have d2 : decide (y < x) = false := by simpa using h2
      have Hr := Lib.hid (show 0 = cmpI x y by unfold cmpI; rw [if_neg h1, if_neg h2])
      go_wp2_with fail
      go_ret
      exact ⟨ret_int Hr.out, hB⟩

set_option maxRecDepth 100000 in
set_option maxHeartbeats 2000000 in
theorem compare_any (a b : List Int) (n m : Nat) (hn : a.length = n) (hm : b.length = m) (A A' : Option Addr) (c c' : Nat) (w : World) (h : Row .i64 w w.heap.size A a) (h' : Row .i64 w w.heap.size A' b) (h1 : n ≤ 1000) (h2 : m ≤ 1000) (q : Bool) (hq : lexB a b = q) :
    Calls Try.prog 69 #[.slice A n c, .slice A' m c'] w fun e w' => ∃ z : Int, e = .returned (.int .i64 z) ∧ decide (z < 0) = q ∧ Below w.heap.size w w' := by
  have Hn := Lib.hid hn
  have Hm := Lib.hid hm
  have Hq := Lib.hid hq
  clear hn hm hq
  go_enter Try.func69, Try.ntmps69
  go_wp2_with fail
  go_loopw [11] (fun i wr => ∃ k : Nat, k ≤ n ∧ k ≤ m ∧ i = .int .i64 k ∧ Hid (a.take k = b.take k) ∧ Below w.heap.size w wr) (fun i _ => n - (intOf i).toNat)
  case atStart => exact ⟨0, Nat.zero_le _, Nat.zero_le _, rfl, Lib.hid (by simp), Below.refl _ _⟩
  case round =>
    obtain ⟨k, hk, hkm, rfl, Ht, hB⟩ := hrel
    by_cases hlt : k < n
    · have hlt1 : (k : Int) < (n : Int) := by omega
      obtain ⟨ad, x, rfl, hx, hc⟩ := (h.below hB).get_ (k := k) (by rw [Hn.out]; exact hlt)
      have Hx := Lib.hid hx
      clear hx
      by_cases hlt2 : k < m
      · have e1 : ¬ (m : Int) ≤ (k : Int) := by omega
        obtain ⟨ad', y, rfl, hy, hc'⟩ := (h'.below hB).get_ (k := k) (by rw [Hm.out]; exact hlt2)
        have Hy := Lib.hid hy
        clear hy
        go_wp2_with fail
        refine (cmp_any x y wr).mono ?_
        rintro e w1 ⟨rfl, hB1⟩
        by_cases hxy : x = y
        · have e2 : cmpI x y = 0 := by subst hxy; simp [cmpI]
          rw [e2]
          have Hxy := Lib.hid hxy
          clear hxy e2
          go_wp2_with fail
          go_round
          case measure => simp [intOf]; omega
          exact ⟨k + 1, by omega, by omega, by go_num, Lib.hid (take_next Ht.out (by rw [Hx.out, Hy.out, Hxy.out])), hB.trans (hB1.mono hB.size)⟩
        · obtain ⟨z, hz⟩ : ∃ z, cmpI x y = z := ⟨_, rfl⟩
          have hz0 : ¬ z = 0 := by rw [← hz]; unfold cmpI; split <;> (try split) <;> omega
          have hz1 : (z != 0) = true := by simpa [bne] using hz0
          have hz2 : decide (z < 0) = decide (x < y) := by rw [← hz]; unfold cmpI; split <;> (try split) <;> simp <;> omega
          have Hz2 := Lib.hid hz2
          have Hxy := Lib.hid hxy
          rw [hz]
          clear hz hz2 hxy
          go_wp2_with fail
          go_ret
          exact ⟨z, rfl, by rw [← Hq.out, Hz2.out]; exact (lexB_at k a b x y Ht.out Hx.out Hy.out Hxy.out).symm, hB.trans (hB1.mono hB.size)⟩
      · have e1 : (m : Int) ≤ (k : Int) := by omega
        go_wp2_with fail
        go_ret
        exact ⟨1, rfl, by rw [← Hq.out, lexB_right k a b Ht.out (by rw [Hn.out]; exact hlt) (by rw [Hm.out]; omega)]; rfl, hB⟩
    · obtain rfl : k = n := by omega
      have hfin := lexB_left k a b Ht.out Hn.out
      rw [Hq.out, Hm.out] at hfin
      have Hfin := Lib.hid hfin
      clear hfin
      by_cases hkm2 : k < m
      · have e1 : (k : Int) < (m : Int) := by omega
        go_wp2_with fail
        go_ret
        exact ⟨-1, rfl, by rw [Hfin.out]; simp [hkm2], hB⟩
      · have e1 : ¬ (k : Int) < (m : Int) := by omega
        go_wp2_with fail
        go_ret
        exact ⟨0, rfl, by rw [Hfin.out]; simp [hkm2], hB⟩

set_option maxRecDepth 100000 in
set_option maxHeartbeats 2000000 in
theorem below_any (a b : List Int) (n m : Nat) (hn : a.length = n) (hm : b.length = m) (A A' : Option Addr) (c c' : Nat) (w : World) (h : Row .i64 w w.heap.size A a) (h' : Row .i64 w w.heap.size A' b) (h1 : n ≤ 1000) (h2 : m ≤ 1000) (q : Bool) (hq : lexB a b = q) :
    Calls Try.prog 32 #[.slice A n c, .slice A' m c'] w fun e w' => e = .returned (.bool q) ∧ Below w.heap.size w w' := by
  have Hn := Lib.hid hn
  have Hm := Lib.hid hm
  have Hq := Lib.hid hq
  clear hn hm hq
  go_enter Try.func32, Try.ntmps32
  go_wp2_with fail
  go_loopw [5] (fun i wr => ∃ k : Nat, k ≤ n ∧ k ≤ m ∧ i = .int .i64 k ∧ Hid (a.take k = b.take k) ∧ Below w.heap.size w wr) (fun i _ => n - (intOf i).toNat)
  case atStart => exact ⟨0, Nat.zero_le _, Nat.zero_le _, rfl, Lib.hid (by simp), Below.refl _ _⟩
  case round =>
    obtain ⟨k, hk, hkm, rfl, Ht, hB⟩ := hrel
    by_cases hlt : k < n
    · have hlt1 : (k : Int) < (n : Int) := by omega
      have d1 : decide ((k : Int) < (n : Int)) = true := by simpa using hlt1
      obtain ⟨ad, x, rfl, hx, hc⟩ := (h.below hB).get_ (k := k) (by rw [Hn.out]; exact hlt)
      have Hx := Lib.hid hx
      clear hx
      by_cases hlt2 : k < m
      · have hlt3 : (k : Int) < (m : Int) := by omega
        have d2 : decide ((k : Int) < (m : Int)) = true := by simpa using hlt3
        obtain ⟨ad', y, rfl, hy, hc'⟩ := (h'.below hB).get_ (k := k) (by rw [Hm.out]; exact hlt2)
        have Hy := Lib.hid hy
        clear hy
        by_cases hxy : x = y
        · have e2 : (x != y) = false := by simp [hxy]
          have Hxy := Lib.hid hxy
          clear hxy
          go_wp2_with fail
          go_quiet (fail)
          go_wp2_with fail
          go_round
          case measure => simp [intOf]; omega
          exact ⟨k + 1, by omega, by omega, by go_num, Lib.hid (take_next Ht.out (by rw [Hx.out, Hy.out, Hxy.out])), below_drewN' hB _⟩
        · have e2 : (x != y) = true := by simpa [bne] using hxy
          have hfin := lexB_at k a b x y Ht.out Hx.out Hy.out hxy
          have Hfin := Lib.hid (Hq.out.symm.trans hfin)
          have Hxy := Lib.hid hxy
          clear hxy hfin
          go_wp2_with fail
          go_quiet (fail)
          go_wp2_with fail
          go_quiet (fail)
          go_wp2_with fail
          go_ret
          exact ⟨ret_bool Hfin.out.symm, below_drewN' (below_drewN' hB _) _⟩
      · have hlt3 : ¬ (k : Int) < (m : Int) := by omega
        have d2 : decide ((k : Int) < (m : Int)) = false := by simpa using hlt3
        have hfin := lexB_right k a b Ht.out (by rw [Hn.out]; exact hlt) (by rw [Hm.out]; omega)
        have Hfin := Lib.hid (Hq.out.symm.trans hfin)
        clear hfin
        obtain rfl : k = m := by omega
        have d3 : ¬ n < k := by omega
        go_wp2_with fail
        go_ret
        exact ⟨ret_bool (by rw [Hfin.out]), hB⟩
    · obtain rfl : k = n := by omega
      have hfin := lexB_left k a b Ht.out Hn.out
      rw [Hq.out, Hm.out] at hfin
      have Hfin := Lib.hid hfin
      clear hfin
      go_wp2_with fail
      go_ret
      exact ⟨ret_bool (by rw [Hfin.out]), hB⟩

end Go.Proofs.Ytlbgilbigcnleaa
