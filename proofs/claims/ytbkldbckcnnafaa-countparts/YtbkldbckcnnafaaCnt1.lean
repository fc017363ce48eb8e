/-
  What an occurrence makes of a counter: the program's small functions.
-/
import Derived.Test.YtbkldbckcnnafaaCnt0
namespace Go.Proofs.Ytbkldbckcnnafaa
open Go.RowKit
set_option linter.unusedVariables false
set_option linter.unusedSimpArgs false

theorem grown_setAt (w : World) (F i : Nat) (v : Value) : w.grownBy (w.setCell ⟨F, i, none⟩ v) (some F) :=
  ⟨rfl, rfl, rfl, by simp [World.setCell], fun k _ hk => Below.heap_setCell _ _ _ k (fun e => hk (by simp at e; rw [e]))⟩
theorem below_grownF {w0 w w' : World} {F : Nat} (b : Below w0.heap.size w0 w) (g : w.grownBy w' (some F)) (hF : w0.heap.size ≤ F) : Below w0.heap.size w0 w' :=
  ⟨g.os.trans b.os, g.tape.trans b.tape, g.output.trans b.output, Nat.le_trans b.size g.size, fun k hk => (g.block k (Nat.lt_of_lt_of_le hk b.size) (by simp; omega)).trans (b.block k hk)⟩
theorem other_grownF {w w' : World} {F G : Nat} {o : Obj} (g : w.grownBy w' (some F)) (h : w.heap[G]? = some o) (hne : G ≠ F) : w'.heap[G]? = some o :=
  (g.block G (Array.getElem?_eq_some_iff.1 h).1 (by simpa using hne)).trans h
/-- A counter stored over one. -/
def set4 (w : World) (F : Nat) (a b c d : Value) : World := (((w.setCell ⟨F, 0, none⟩ a).setCell ⟨F, 1, none⟩ b).setCell ⟨F, 2, none⟩ c).setCell ⟨F, 3, none⟩ d
theorem set4_obj {w : World} {F : Nat} {a b c d : Value} {t : TypeId} (h : w.heap[F]? = some (.cells #[a, b, c, d] t)) (a' b' c' d' : Value) :
    (set4 w F a' b' c' d').heap[F]? = some (.cells #[a', b', c', d'] t) := by
  simp [set4, World.setCell, Array.getElem?_modify, h]
theorem set4_grown (w : World) (F : Nat) (a b c d : Value) : w.grownBy (set4 w F a b c d) (some F) :=
  (((grown_setAt w F 0 a).trans (grown_setAt _ F 1 b)).trans (grown_setAt _ F 2 c)).trans (grown_setAt _ F 3 d)

set_option maxRecDepth 100000 in
set_option maxHeartbeats 1000000 in
theorem sent_any (c d : CV) (hd : sentV c = d) (h : 0 ≤ c.t ∧ c.t ≤ 1000) (w : World) :
    Calls Try.prog 25 #[c.v] w fun e w' => e = .returned d.v ∧ Below w.heap.size w w' := by
  have h1 : IntKind.i64.wrap (c.t - 1) = c.t - 1 := by rw [IntKind.wrap_i64]; omega
  have h2 : wrap64 (c.t - 1) = c.t - 1 := by unfold wrap64; omega
  obtain ⟨m, hm⟩ : ∃ m, max (c.t - 1) 0 = m := ⟨_, rfl⟩
  go_enter Try.func25, Try.ntmps25
  go_wp2_with fail
  refine bodyPost_ret (v := d.v) (results_y rfl _ rfl ?_) rfl ⟨rfl, ?_⟩
  · subst hd
    have := blk2 w (.cells #[.int .i64 m, .int .i64 c.r, .int .i64 c.s, .int .i64 c.q] 41) (.cells #[.int .i64 m, .int .i64 c.r, .int .i64 c.s, .int .i64 c.q] 41)
    simpa [HasY, sentV, hm] using this
  · exact below_two _ _ _

set_option maxRecDepth 100000 in
set_option maxHeartbeats 1000000 in
theorem heard_any (c d : CV) (hd : heardV c = d) (h : 0 ≤ c.r ∧ c.r ≤ 1000) (w : World) :
    Calls Try.prog 26 #[c.v] w fun e w' => e = .returned d.v ∧ Below w.heap.size w w' := by
  have h1 : IntKind.i64.wrap (c.r - 1) = c.r - 1 := by rw [IntKind.wrap_i64]; omega
  have h2 : wrap64 (c.r - 1) = c.r - 1 := by unfold wrap64; omega
  obtain ⟨m, hm⟩ : ∃ m, max (c.r - 1) 0 = m := ⟨_, rfl⟩
  by_cases h3 : 127 < c.r
  · obtain rfl : d = ⟨c.t, 127, c.s, c.q⟩ := by rw [← hd]; simp [heardV, h3]
    clear hd
    go_enter Try.func26, Try.ntmps26
    go_wp2_with fail
    refine bodyPost_ret (v := CV.v ⟨c.t, 127, c.s, c.q⟩) (results_y (c := ⟨c.t, 127, c.s, c.q⟩) rfl _ rfl ?_) rfl ⟨rfl, ?_⟩
    · have := blk2 w (.cells #[.int .i64 c.t, .int .i64 127, .int .i64 c.s, .int .i64 c.q] 41) (.cells #[.int .i64 c.t, .int .i64 127, .int .i64 c.s, .int .i64 c.q] 41)
      simpa [HasY, heardV, h3] using this
    · exact below_two _ _ _
  · obtain rfl : d = ⟨c.t, m, c.s, c.q⟩ := by rw [← hd]; simp [heardV, h3, hm]
    clear hd
    go_enter Try.func26, Try.ntmps26
    go_wp2_with fail
    refine bodyPost_ret (v := CV.v ⟨c.t, m, c.s, c.q⟩) (results_y (c := ⟨c.t, m, c.s, c.q⟩) rfl _ rfl ?_) rfl ⟨rfl, ?_⟩
    · have := blk2 w (.cells #[.int .i64 c.t, .int .i64 m, .int .i64 c.s, .int .i64 c.q] 41) (.cells #[.int .i64 c.t, .int .i64 m, .int .i64 c.s, .int .i64 c.q] 41)
      simpa [HasY, heardV, h3, hm] using this
    · exact below_two _ _ _

set_option maxRecDepth 100000 in
set_option maxHeartbeats 1000000 in
theorem wrong_any (c d : CV) (hd : wrongV c = d) (h : 0 ≤ c.t ∧ c.t ≤ 1000) (w : World) :
    Calls Try.prog 27 #[c.v] w fun e w' => e = .returned d.v ∧ Below w.heap.size w w' := by
  have h1 : IntKind.i64.wrap (c.t + 8) = c.t + 8 := by rw [IntKind.wrap_i64]; omega
  have h2 : wrap64 (c.t + 8) = c.t + 8 := by unfold wrap64; omega
  go_enter Try.func27, Try.ntmps27
  go_wp2_with fail
  refine bodyPost_ret (v := d.v) (results_y rfl _ rfl ?_) rfl ⟨rfl, ?_⟩
  · subst hd
    have := blk2 w (.cells #[.int .i64 (c.t + 8), .int .i64 c.r, .int .i64 c.s, .int .i64 c.q] 41) (.cells #[.int .i64 (c.t + 8), .int .i64 c.r, .int .i64 c.s, .int .i64 c.q] 41)
    simpa [HasY, wrongV] using this
  · exact below_two _ _ _

set_option maxRecDepth 100000 in
set_option maxHeartbeats 1000000 in
theorem long_any (b : Int) (hb : 0 ≤ b ∧ b ≤ 1000) (c d : CV) (hd : longV b c = d) (h : 0 ≤ c.r ∧ c.r ≤ 1000) (X : Nat) (w : World) (hX : w.cell? ⟨X, 0, none⟩ = some (.int .i64 b)) :
    Calls Try.prog 24 #[c.v, .pointer (some ⟨X, 0, none⟩)] w fun e w' => e = .returned d.v ∧ Below w.heap.size w w' := by
  have h1 : IntKind.i64.wrap (c.r + b) = c.r + b := by rw [IntKind.wrap_i64]; omega
  have h2 : wrap64 (c.r + b) = c.r + b := by unfold wrap64; omega
  obtain ⟨m, hm⟩ : ∃ m, min (c.r + b) 255 = m := ⟨_, rfl⟩
  have hl := World.block_lt_of_cell? w _ hX
  have hX2 : ∀ o1 o2, ((w.alloc o1).alloc o2).cell? ⟨X, 0, none⟩ = some (.int .i64 b) := fun o1 o2 => ((below_two w o1 o2).cell hl).trans hX
  go_enter Try.func24, Try.ntmps24
  go_wp2_with fail
  refine bodyPost_ret (v := d.v) (results_y rfl _ rfl ?_) rfl ⟨rfl, ?_⟩
  · subst hd
    have := blk2 w (.cells #[.int .i64 c.t, .int .i64 m, .int .i64 c.s, .int .i64 c.q] 41) (.cells #[.int .i64 c.t, .int .i64 m, .int .i64 c.s, .int .i64 c.q] 41)
    simpa [HasY, longV, hm] using this
  · exact below_two _ _ _

set_option maxRecDepth 100000 in
set_option maxHeartbeats 1000000 in
theorem made_any (b : Int) (w : World) :
    Calls Try.prog 23 #[.int .i64 b] w fun e w' => ∃ X, e = .returned (.func (.func 24) #[] #[.pointer (some ⟨X, 0, none⟩)]) ∧ w.heap.size ≤ X ∧ w'.heap[X]? = some (.cells #[.int .i64 b] 3) ∧ Below w.heap.size w w' := by
  go_enter Try.func23, Try.ntmps23
  go_wp2_with fail
  go_ret
  exact ⟨w.heap.size, rfl, Nat.le_refl _, World.alloc_heap_new _ _, below_alloc1 _ _⟩
set_option maxRecDepth 100000 in
set_option maxHeartbeats 1000000 in
theorem new_any (w : World) :
    Calls Try.prog 13 #[] w fun e w' => e = .returned newV.v ∧ Below w.heap.size w w' := by
  go_enter Try.func13, Try.ntmps13
  go_wp2_with fail
  refine bodyPost_ret (v := newV.v) (results_c rfl _ rfl ?_) rfl ⟨rfl, below_alloc1 _ _⟩
  have := World.alloc_heap_new w (.cells #[.int .i64 0, .int .i64 0, .int .i64 1, .int .i64 0] 23)
  simpa [HasC, newV] using this
set_option maxRecDepth 100000 in
set_option maxHeartbeats 1000000 in
theorem refNew_any (w : World) :
    Calls Try.prog 14 #[] w fun e w' => e = .returned newV.v ∧ Below w.heap.size w w' := by
  go_enter Try.func14, Try.ntmps14
  go_wp2_with fail
  refine bodyPost_ret (v := newV.v) (results_c rfl _ rfl ?_) rfl ⟨rfl, below_alloc1 _ _⟩
  have := World.alloc_heap_new w (.cells #[.int .i64 0, .int .i64 0, .int .i64 1, .int .i64 0] 23)
  simpa [HasC, newV] using this
set_option maxRecDepth 100000 in
set_option maxHeartbeats 1000000 in
theorem settle_any (c d : CV) (hd : settleV c = d) (w : World) :
    Calls Try.prog 29 #[c.v] w fun e w' => e = .returned d.v ∧ Below w.heap.size w w' := by
  by_cases h1 : 255 < c.t
  · obtain rfl : d = ⟨256, 0, 3, 0⟩ := by rw [← hd]; simp [settleV, h1]
    clear hd
    go_enter Try.func29, Try.ntmps29
    go_wp2_with fail
    refine bodyPost_ret (v := CV.v ⟨256, 0, 3, 0⟩) (results_c (c := ⟨256, 0, 3, 0⟩) rfl _ rfl ?_) rfl ⟨rfl, ?_⟩
    · have := blk2 w (.cells #[.int .i64 c.t, .int .i64 c.r, .int .i64 c.s, .int .i64 c.q] 23) (.cells #[.int .i64 256, .int .i64 0, .int .i64 3, .int .i64 0] 23)
      simpa [HasC, settleV, h1] using this
    · exact below_two _ _ _
  · by_cases h2 : 127 < c.t
    · obtain rfl : d = ⟨c.t, c.r, 2, c.q⟩ := by rw [← hd]; simp [settleV, h1, h2]
      clear hd
      go_enter Try.func29, Try.ntmps29
      go_wp2_with fail
      refine bodyPost_ret (v := CV.v ⟨c.t, c.r, 2, c.q⟩) (results_c (c := ⟨c.t, c.r, 2, c.q⟩) rfl _ rfl ?_) rfl ⟨rfl, ?_⟩
      · have := blk2 w (.cells #[.int .i64 c.t, .int .i64 c.r, .int .i64 2, .int .i64 c.q] 23) (.cells #[.int .i64 c.t, .int .i64 c.r, .int .i64 2, .int .i64 c.q] 23)
        simpa [HasC, settleV, h1, h2] using this
      · exact below_two _ _ _
    · by_cases h3 : 127 < c.r
      · obtain rfl : d = ⟨c.t, c.r, 2, c.q⟩ := by rw [← hd]; simp [settleV, h1, h2, h3]
        clear hd
        go_enter Try.func29, Try.ntmps29
        go_wp2_with fail
        refine bodyPost_ret (v := CV.v ⟨c.t, c.r, 2, c.q⟩) (results_c (c := ⟨c.t, c.r, 2, c.q⟩) rfl _ rfl ?_) rfl ⟨rfl, ?_⟩
        · have := blk2 w (.cells #[.int .i64 c.t, .int .i64 c.r, .int .i64 2, .int .i64 c.q] 23) (.cells #[.int .i64 c.t, .int .i64 c.r, .int .i64 2, .int .i64 c.q] 23)
          simpa [HasC, settleV, h1, h2, h3] using this
        · exact below_two _ _ _
      · obtain rfl : d = ⟨c.t, c.r, 1, c.q⟩ := by rw [← hd]; simp [settleV, h1, h2, h3]
        clear hd
        go_enter Try.func29, Try.ntmps29
        go_wp2_with fail
        refine bodyPost_ret (v := CV.v ⟨c.t, c.r, 1, c.q⟩) (results_c (c := ⟨c.t, c.r, 1, c.q⟩) rfl _ rfl ?_) rfl ⟨rfl, ?_⟩
        · have := blk2 w (.cells #[.int .i64 c.t, .int .i64 c.r, .int .i64 1, .int .i64 c.q] 23) (.cells #[.int .i64 c.t, .int .i64 c.r, .int .i64 1, .int .i64 c.q] 23)
          simpa [HasC, settleV, h1, h2, h3] using this
        · exact below_two _ _ _

set_option maxRecDepth 100000 in
set_option maxHeartbeats 1000000 in
theorem within_any (n m : Int) (w : World) :
    Calls Try.prog 20 #[.int .i64 n, .int .i64 m] w fun e w' => e = .returned (.bool (decide (0 ≤ n ∧ n ≤ m))) ∧ w' = w := by
  by_cases h : 0 ≤ n
  all_goals
    go_enter Try.func20, Try.ntmps20
    go_wp2_with fail
    go_ret
    exact ⟨ret_bool (by rw [Bool.eq_iff_iff]; simp; omega), rfl⟩

end Go.Proofs.Ytbkldbckcnnafaa
