/-
  Whether a filter is right, the document's Covers and Meets, a frame of an identifier, whether a frame is right.
-/
import Derived.Test.YtmffflckcpgjiaaFil0
namespace Go.Proofs.Ytmffflckcpgjiaa
open Go.RowKit
set_option linter.unusedVariables false
set_option linter.unusedSimpArgs false

def mostL (x : Bool) : Int := if x then 536870912 else 2048
def rightP (f : FL) : Bool := decide (0 ≤ f.k ∧ f.k < mostL f.x) && (bits .andNot .i64 f.m f.k == 0)
def refRightP (f : FL) : Bool := decide (0 ≤ f.k ∧ f.k < mostL f.x ∧ 0 ≤ f.m ∧ f.m < mostL f.x) && (bits .and .i64 f.m f.k == f.m)
def refCoversP (a b : FL) : Bool := (a.x == b.x) && (bits .and .i64 a.k b.k == a.k) && (bits .and .i64 b.m a.k == a.m)
def refMeetsP (a b : FL) : Bool := (a.x == b.x) && (bits .and .i64 (bits .and .i64 (bits .xor .i64 a.m b.m) a.k) b.k == 0)

theorem below2 (w : World) (o1 o2 : Obj) : Below w.heap.size w ((w.alloc o1).alloc o2) := below_then (below_alloc1 _ _) (below_alloc1 _ _)

set_option maxRecDepth 100000 in
set_option maxHeartbeats 2000000 in
theorem right_any (f : FL) (w : World) :
    Calls Try.prog 11 #[f.v] w fun e w' => e = .returned (.bool (rightP f)) ∧ Below w.heap.size w w' := by
  obtain ⟨x, k, m⟩ := f
  have Hfin := Lib.hid (below_alloc1 w (.cells #[.bool x, .int .i64 k, .int .i64 m] 23))
  rcases dec (0 ≤ k) with ⟨d1, h1⟩ | ⟨d1, h1⟩
  · cases x
    · rcases dec (k ≤ 2047) with ⟨d2, h2⟩ | ⟨d2, h2⟩
      all_goals
        go_enter Try.func11, Try.ntmps11
        go_wp2_with fail
        go_ret
        exact ⟨ret_bool (by rw [Bool.eq_iff_iff]; simp [rightP, mostL]; omega), Hfin.out⟩
    · rcases dec (k ≤ 536870911) with ⟨d2, h2⟩ | ⟨d2, h2⟩
      all_goals
        go_enter Try.func11, Try.ntmps11
        go_wp2_with fail
        go_ret
        exact ⟨ret_bool (by rw [Bool.eq_iff_iff]; simp [rightP, mostL]; omega), Hfin.out⟩
  · cases x
    all_goals
      go_enter Try.func11, Try.ntmps11
      go_wp2_with fail
      go_ret
      exact ⟨ret_bool (by rw [Bool.eq_iff_iff]; simp [rightP, mostL]; omega), Hfin.out⟩

set_option maxRecDepth 100000 in
set_option maxHeartbeats 2000000 in
theorem refRight_any (f : FL) (w : World) :
    Calls Try.prog 12 #[f.v] w fun e w' => e = .returned (.bool (refRightP f)) ∧ Below w.heap.size w w' := by
  obtain ⟨x, k, m⟩ := f
  have Hfin := Lib.hid (below_alloc1 w (.cells #[.bool x, .int .i64 k, .int .i64 m] 23))
  obtain ⟨M, hM⟩ : ∃ M, mostL x = M := ⟨_, rfl⟩
  rcases dec (0 ≤ k) with ⟨d1, h1⟩ | ⟨d1, h1⟩
  · cases x
    · rcases dec (k < 2048) with ⟨d2, h2⟩ | ⟨d2, h2⟩
      · rcases dec (0 ≤ m) with ⟨d3, h3⟩ | ⟨d3, h3⟩
        · rcases dec (m < 2048) with ⟨d4, h4⟩ | ⟨d4, h4⟩
          all_goals
            go_enter Try.func12, Try.ntmps12
            go_wp2_with fail
            go_ret
            exact ⟨ret_bool (by rw [Bool.eq_iff_iff]; simp [refRightP, mostL]; omega), Hfin.out⟩
        · go_enter Try.func12, Try.ntmps12
          go_wp2_with fail
          go_ret
          exact ⟨ret_bool (by rw [Bool.eq_iff_iff]; simp [refRightP, mostL]; omega), Hfin.out⟩
      · go_enter Try.func12, Try.ntmps12
        go_wp2_with fail
        go_ret
        exact ⟨ret_bool (by rw [Bool.eq_iff_iff]; simp [refRightP, mostL]; omega), Hfin.out⟩
    · rcases dec (k < 536870912) with ⟨d2, h2⟩ | ⟨d2, h2⟩
      · rcases dec (0 ≤ m) with ⟨d3, h3⟩ | ⟨d3, h3⟩
        · rcases dec (m < 536870912) with ⟨d4, h4⟩ | ⟨d4, h4⟩
          all_goals
            go_enter Try.func12, Try.ntmps12
            go_wp2_with fail
            go_ret
            exact ⟨ret_bool (by rw [Bool.eq_iff_iff]; simp [refRightP, mostL]; omega), Hfin.out⟩
        · go_enter Try.func12, Try.ntmps12
          go_wp2_with fail
          go_ret
          exact ⟨ret_bool (by rw [Bool.eq_iff_iff]; simp [refRightP, mostL]; omega), Hfin.out⟩
      · go_enter Try.func12, Try.ntmps12
        go_wp2_with fail
        go_ret
        exact ⟨ret_bool (by rw [Bool.eq_iff_iff]; simp [refRightP, mostL]; omega), Hfin.out⟩
  · cases x
    all_goals
      go_enter Try.func12, Try.ntmps12
      go_wp2_with fail
      go_ret
      exact ⟨ret_bool (by rw [Bool.eq_iff_iff]; simp [refRightP, mostL]; omega), Hfin.out⟩

set_option maxRecDepth 100000 in
set_option maxHeartbeats 2000000 in
theorem refCovers_any (a b : FL) (w : World) :
    Calls Try.prog 20 #[a.v, b.v] w fun e w' => e = .returned (.bool (refCoversP a b)) ∧ Below w.heap.size w w' := by
  cases hx : a.x == b.x
  · go_enter Try.func20, Try.ntmps20
    go_wp2_with fail
    go_ret
    exact ⟨ret_bool (by simp [refCoversP, hx]), below2 _ _ _⟩
  · cases hk : bits .and .i64 a.k b.k == a.k
    all_goals
      go_enter Try.func20, Try.ntmps20
      go_wp2_with fail
      go_ret
      exact ⟨ret_bool (by simp [refCoversP, hx, hk]), below2 _ _ _⟩

set_option maxRecDepth 100000 in
set_option maxHeartbeats 2000000 in
theorem refMeets_any (a b : FL) (w : World) :
    Calls Try.prog 22 #[a.v, b.v] w fun e w' => e = .returned (.bool (refMeetsP a b)) ∧ Below w.heap.size w w' := by
  cases hx : a.x == b.x
  all_goals
    go_enter Try.func22, Try.ntmps22
    go_wp2_with fail
    go_ret
    exact ⟨ret_bool (by simp [refMeetsP, hx]), below2 _ _ _⟩

set_option maxRecDepth 100000 in
theorem frame_any (x : Bool) (i : Int) (w : World) :
    Calls Try.prog 23 #[.bool x, .int .i64 i] w fun e w' => e = .returned (.agg #[.bool x, .int .i64 i, .bool false, .int .i64 0, .slice none 0 0]) ∧ Below w.heap.size w w' := by
  have H0 := Lib.hid (show HasF (w.alloc (.cells #[.bool x, .int .i64 i, .bool false, .int .i64 0, .slice none 0 0] 27)) w.heap.size ⟨x, i, false, 0, none, 0, 0⟩ from World.alloc_heap_new _ _)
  go_enter Try.func23, Try.ntmps23
  go_wp2_with fail
  refine bodyPost_ret (results_fr rfl _ rfl H0.out) rfl ⟨rfl, below_alloc1 _ _⟩

/-- A right frame? -/
def frRightP (g : FV) : Bool := decide (0 ≤ g.i ∧ g.i < mostL g.x ∧ 0 ≤ g.n ∧ g.n ≤ 8 ∧ (g.m : Int) = if g.r then 0 else g.n)

set_option maxRecDepth 100000 in
set_option maxHeartbeats 2000000 in
theorem refFrRight_any (g : FV) (w : World) :
    Calls Try.prog 14 #[g.v] w fun e w' => e = .returned (.bool (frRightP g)) ∧ Below w.heap.size w w' := by
  obtain ⟨x, i, r, n, A, m, c⟩ := g
  have Hfin := Lib.hid (below_alloc1 w (.cells #[.bool x, .int .i64 i, .bool r, .int .i64 n, .slice A m c] 27))
  rcases dec (i < 0) with ⟨d1, h1⟩ | ⟨d1, h1⟩
  · cases x
    all_goals
      go_enter Try.func14, Try.ntmps14
      go_wp2_with fail
      go_ret
      exact ⟨ret_bool (by rw [Bool.eq_iff_iff]; simp [frRightP, mostL]; omega), Hfin.out⟩
  · cases x
    · rcases dec (2048 ≤ i) with ⟨d2, h2⟩ | ⟨d2, h2⟩
      · go_enter Try.func14, Try.ntmps14
        go_wp2_with fail
        go_ret
        exact ⟨ret_bool (by rw [Bool.eq_iff_iff]; simp [frRightP, mostL]; omega), Hfin.out⟩
      rcases dec (n < 0) with ⟨d3, h3⟩ | ⟨d3, h3⟩
      · go_enter Try.func14, Try.ntmps14
        go_wp2_with fail
        go_ret
        exact ⟨ret_bool (by rw [Bool.eq_iff_iff]; simp [frRightP, mostL]; omega), Hfin.out⟩
      rcases dec (8 < n) with ⟨d4, h4⟩ | ⟨d4, h4⟩
      all_goals
        cases r
        all_goals
          go_enter Try.func14, Try.ntmps14
          go_wp2_with fail
          go_ret
          exact ⟨ret_bool (by rw [Bool.eq_iff_iff]; simp [frRightP, mostL]; omega), Hfin.out⟩
    · rcases dec (536870912 ≤ i) with ⟨d2, h2⟩ | ⟨d2, h2⟩
      · go_enter Try.func14, Try.ntmps14
        go_wp2_with fail
        go_ret
        exact ⟨ret_bool (by rw [Bool.eq_iff_iff]; simp [frRightP, mostL]; omega), Hfin.out⟩
      rcases dec (n < 0) with ⟨d3, h3⟩ | ⟨d3, h3⟩
      · go_enter Try.func14, Try.ntmps14
        go_wp2_with fail
        go_ret
        exact ⟨ret_bool (by rw [Bool.eq_iff_iff]; simp [frRightP, mostL]; omega), Hfin.out⟩
      rcases dec (8 < n) with ⟨d4, h4⟩ | ⟨d4, h4⟩
      all_goals
        cases r
        all_goals
          go_enter Try.func14, Try.ntmps14
          go_wp2_with fail
          go_ret
          exact ⟨ret_bool (by rw [Bool.eq_iff_iff]; simp [frRightP, mostL]; omega), Hfin.out⟩

end Go.Proofs.Ytmffflckcpgjiaa
