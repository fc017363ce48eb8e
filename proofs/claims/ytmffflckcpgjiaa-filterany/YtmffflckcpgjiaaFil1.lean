/-
  Whether a filter is right, takes a frame, covers, meets: the program's functions and the document's, as they reckon.
-/
import Derived.Test.YtmffflckcpgjiaaFil0
namespace Go.Proofs.Ytmffflckcpgjiaa
open Go.RowKit
set_option linter.unusedVariables false
set_option linter.unusedSimpArgs false

def takesV (f : FL) (x : Bool) (i : Int) : Bool := (x == f.x) && (bits .and .i64 i f.k == f.m)
def withinV (f : FL) (k : Int) : FL := ⟨f.x, bits .and .i64 f.k k, bits .and .i64 f.m k⟩
def coversV (a b : FL) : Bool := decide (withinV b a.k = a)
def meetsV (a b : FL) : Bool := decide (withinV a b.k = withinV b a.k)
theorem fl_ext {a b : FL} : a = b ↔ a.x = b.x ∧ a.k = b.k ∧ a.m = b.m := by
  cases a; cases b; simp

def sameL (a b : FL) : Bool := decide (a = b)
set_option maxRecDepth 100000 in
theorem eqIn_fl (x : Bool) (k m : Int) (x' : Bool) (k' m' : Int) (w : World) :
    (Op.equalIn 10000 23 (.agg #[.bool x, .int .i64 k, .int .i64 m]) (.agg #[.bool x', .int .i64 k', .int .i64 m'])).run Try.prog w = .ok (sameL ⟨x, k, m⟩ ⟨x', k', m'⟩) w := by
  by_cases h1 : x = x' <;> by_cases h2 : k = k' <;> by_cases h3 : m = m' <;> simp [go_sem, sameL, h1, h2, h3]
theorem eq_fl (x : Bool) (k m : Int) (x' : Bool) (k' m' : Int) (w : World) :
    (binOp .eql 23 (.agg #[.bool x, .int .i64 k, .int .i64 m]) (.agg #[.bool x', .int .i64 k', .int .i64 m'])).run Try.prog w = .ok (.bool (sameL ⟨x, k, m⟩ ⟨x', k', m'⟩)) w := by
  rw [run_eql_struct, eqIn_fl]
  rfl

theorem below_two (w : World) (o1 o2 : Obj) : Below w.heap.size w ((w.alloc o1).alloc o2) := below_then (below_alloc1 _ _) (below_alloc1 _ _)

set_option maxRecDepth 100000 in
set_option maxHeartbeats 2000000 in
theorem takes_any (f : FL) (g : FV) (w : World) :
    Calls Try.prog 15 #[f.v, g.v] w fun e w' => e = .returned (.bool (takesV f g.x g.i)) ∧ Below w.heap.size w w' := by
  go_enter Try.func15, Try.ntmps15
  go_wp2_with fail
  all_goals
    go_ret
    exact ⟨ret_bool (by simp [takesV, *]), below_two _ _ _⟩

set_option maxRecDepth 100000 in
set_option maxHeartbeats 2000000 in
theorem refTakes_any (f : FL) (g : FV) (w : World) :
    Calls Try.prog 16 #[f.v, g.v] w fun e w' => e = .returned (.bool (takesV f g.x g.i)) ∧ Below w.heap.size w w' := by
  cases hx : f.x == g.x
  all_goals
    go_enter Try.func16, Try.ntmps16
    go_wp2_with fail
    go_ret
    refine ⟨ret_bool ?_, below_two _ _ _⟩
    rw [Bool.eq_iff_iff]
    simp only [beq_eq_false_iff_ne, beq_iff_eq, ne_eq] at hx
    simp [takesV, hx]
    try (intro h; exact absurd h.symm hx)

set_option maxRecDepth 100000 in
set_option maxHeartbeats 2000000 in
theorem within_any (f : FL) (k : Int) (g : FL) (hg : withinV f k = g) (w : World) :
    Calls Try.prog 26 #[f.v, .int .i64 k] w fun e w' => e = .returned g.v ∧ Below w.heap.size w w' := by
  go_enter Try.func26, Try.ntmps26
  go_wp2_with fail
  refine bodyPost_ret (v := g.v) (results_fl rfl _ rfl ?_) rfl ⟨rfl, ?_⟩
  · subst hg
    have := World.alloc_heap_new (w.alloc (.cells #[.bool f.x, .int .i64 f.k, .int .i64 f.m] 23)) (.cells #[.bool f.x, .int .i64 (bits .and .i64 f.k k), .int .i64 (bits .and .i64 f.m k)] 23)
    simpa [HasL, withinV] using this
  · exact below_two _ _ _

theorem blk1 (w : World) (o1 o2 : Obj) : ((w.alloc o1).alloc o2).heap[w.heap.size]? = some o1 := block_below (below_alloc1 _ _) (World.alloc_heap_new _ _)
theorem blk2 (w : World) (o1 o2 : Obj) : ((w.alloc o1).alloc o2).heap[w.heap.size + 1]? = some o2 := by
  have := World.alloc_heap_new (w.alloc o1) o2
  simpa using this

theorem held_ll {w : World} {F G : Nat} {a b : FL} (h1 : HasL w F a) (h2 : HasL w G b) :
    w.cell? ⟨F, 0, none⟩ = some (.bool a.x) ∧ w.cell? ⟨F, 1, none⟩ = some (.int .i64 a.k) ∧ w.cell? ⟨F, 2, none⟩ = some (.int .i64 a.m) ∧ w.cell? ⟨G, 0, none⟩ = some (.bool b.x) ∧ w.cell? ⟨G, 1, none⟩ = some (.int .i64 b.k) ∧ w.cell? ⟨G, 2, none⟩ = some (.int .i64 b.m) := by
  obtain ⟨a0, a1, a2⟩ := cells3' h1
  obtain ⟨b0, b1, b2⟩ := cells3' h2
  exact ⟨a0, a1, a2, b0, b1, b2⟩

set_option maxRecDepth 100000 in
set_option maxHeartbeats 2000000 in
theorem covers_any (a b : FL) (w : World) :
    Calls Try.prog 19 #[a.v, b.v] w fun e w' => e = .returned (.bool (coversV a b)) ∧ Below w.heap.size w w' := by
  obtain ⟨g, hg⟩ : ∃ g, withinV b a.k = g := ⟨_, rfl⟩
  have HG := Lib.hid hg
  clear hg
  have q1 := eqIn_fl
  have q2 := eq_fl
  go_enter Try.func19, Try.ntmps19
  go_wp2_with fail
  obtain ⟨w0, hw0⟩ : ∃ w0, (w.alloc (.cells #[.bool a.x, .int .i64 a.k, .int .i64 a.m] 23)).alloc (.cells #[.bool b.x, .int .i64 b.k, .int .i64 b.m] 23) = w0 := ⟨_, rfl⟩
  have hT0 : Below w.heap.size w w0 := by rw [← hw0]; exact below_two _ _ _
  have hA0 : HasL w0 w.heap.size a := by rw [← hw0]; exact blk1 _ _ _
  have hB0 : HasL w0 (w.heap.size + 1) b := by rw [← hw0]; exact blk2 _ _ _
  rw [hw0]
  clear hw0
  go_region_held3 (fun W => W.cell? ⟨w.heap.size, 0, none⟩ = some (.bool a.x) ∧ W.cell? ⟨w.heap.size, 1, none⟩ = some (.int .i64 a.k) ∧ W.cell? ⟨w.heap.size, 2, none⟩ = some (.int .i64 a.m) ∧ W.cell? ⟨w.heap.size + 1, 0, none⟩ = some (.bool b.x) ∧ W.cell? ⟨w.heap.size + 1, 1, none⟩ = some (.int .i64 b.k) ∧ W.cell? ⟨w.heap.size + 1, 2, none⟩ = some (.int .i64 b.m))
    (exact held_ll (by repeat (first | assumption | exact Below.refl _ _ | ((with_reducible refine lit2 _ _ _ _ _ ?_); (first | (with_reducible rfl) | (simp; done))) | ((with_reducible refine lit1 _ _ _ _ ?_); (first | (with_reducible rfl) | (simp; done))) | refine row_step (by first | assumption | exact below_alloc1 _ _ | exact below_drew1 _ | exact below_drewN0 _ _) ?_ | refine block_below (by first | assumption | exact below_alloc1 _ _ | exact below_drew1 _ | exact below_drewN0 _ _) ?_ | refine below_then ?_ (by first | assumption | exact below_alloc1 _ _ | exact below_drew1 _ | exact below_drewN0 _ _))) (by repeat (first | assumption | exact Below.refl _ _ | ((with_reducible refine lit2 _ _ _ _ _ ?_); (first | (with_reducible rfl) | (simp; done))) | ((with_reducible refine lit1 _ _ _ _ ?_); (first | (with_reducible rfl) | (simp; done))) | refine row_step (by first | assumption | exact below_alloc1 _ _ | exact below_drew1 _ | exact below_drewN0 _ _) ?_ | refine block_below (by first | assumption | exact below_alloc1 _ _ | exact below_drew1 _ | exact below_drewN0 _ _) ?_ | refine below_then ?_ (by first | assumption | exact below_alloc1 _ _ | exact below_drew1 _ | exact below_drewN0 _ _))))
    (first
      | (go_at_call 26; refine (within_any b a.k g HG.out _).mono ?_; rintro e w1 ⟨rfl, hB1⟩)
      | fail)
  all_goals
    go_wp2_with fail
    go_ret
    exact ⟨ret_bool (by unfold coversV; rw [HG.out]; rfl), by repeat (first | assumption | exact Below.refl _ _ | ((with_reducible refine lit2 _ _ _ _ _ ?_); (first | (with_reducible rfl) | (simp; done))) | ((with_reducible refine lit1 _ _ _ _ ?_); (first | (with_reducible rfl) | (simp; done))) | refine row_step (by first | assumption | exact below_alloc1 _ _ | exact below_drew1 _ | exact below_drewN0 _ _) ?_ | refine block_below (by first | assumption | exact below_alloc1 _ _ | exact below_drew1 _ | exact below_drewN0 _ _) ?_ | refine below_then ?_ (by first | assumption | exact below_alloc1 _ _ | exact below_drew1 _ | exact below_drewN0 _ _))⟩


set_option maxRecDepth 100000 in
set_option maxHeartbeats 2000000 in
theorem meets_any (a b : FL) (w : World) :
    Calls Try.prog 21 #[a.v, b.v] w fun e w' => e = .returned (.bool (meetsV a b)) ∧ Below w.heap.size w w' := by
  obtain ⟨g, hg⟩ : ∃ g, withinV a b.k = g := ⟨_, rfl⟩
  obtain ⟨h, hh⟩ : ∃ h, withinV b a.k = h := ⟨_, rfl⟩
  have HG := Lib.hid hg
  have HH := Lib.hid hh
  clear hg hh
  have q1 := eqIn_fl
  have q2 := eq_fl
  go_enter Try.func21, Try.ntmps21
  go_wp2_with fail
  obtain ⟨w0, hw0⟩ : ∃ w0, (w.alloc (.cells #[.bool a.x, .int .i64 a.k, .int .i64 a.m] 23)).alloc (.cells #[.bool b.x, .int .i64 b.k, .int .i64 b.m] 23) = w0 := ⟨_, rfl⟩
  have hT0 : Below w.heap.size w w0 := by rw [← hw0]; exact below_two _ _ _
  have hA0 : HasL w0 w.heap.size a := by rw [← hw0]; exact blk1 _ _ _
  have hB0 : HasL w0 (w.heap.size + 1) b := by rw [← hw0]; exact blk2 _ _ _
  rw [hw0]
  clear hw0
  go_region_held3 (fun W => W.cell? ⟨w.heap.size, 0, none⟩ = some (.bool a.x) ∧ W.cell? ⟨w.heap.size, 1, none⟩ = some (.int .i64 a.k) ∧ W.cell? ⟨w.heap.size, 2, none⟩ = some (.int .i64 a.m) ∧ W.cell? ⟨w.heap.size + 1, 0, none⟩ = some (.bool b.x) ∧ W.cell? ⟨w.heap.size + 1, 1, none⟩ = some (.int .i64 b.k) ∧ W.cell? ⟨w.heap.size + 1, 2, none⟩ = some (.int .i64 b.m))
    (exact held_ll (by repeat (first | assumption | exact Below.refl _ _ | ((with_reducible refine lit2 _ _ _ _ _ ?_); (first | (with_reducible rfl) | (simp; done))) | ((with_reducible refine lit1 _ _ _ _ ?_); (first | (with_reducible rfl) | (simp; done))) | refine row_step (by first | assumption | exact below_alloc1 _ _ | exact below_drew1 _ | exact below_drewN0 _ _) ?_ | refine block_below (by first | assumption | exact below_alloc1 _ _ | exact below_drew1 _ | exact below_drewN0 _ _) ?_ | refine below_then ?_ (by first | assumption | exact below_alloc1 _ _ | exact below_drew1 _ | exact below_drewN0 _ _))) (by repeat (first | assumption | exact Below.refl _ _ | ((with_reducible refine lit2 _ _ _ _ _ ?_); (first | (with_reducible rfl) | (simp; done))) | ((with_reducible refine lit1 _ _ _ _ ?_); (first | (with_reducible rfl) | (simp; done))) | refine row_step (by first | assumption | exact below_alloc1 _ _ | exact below_drew1 _ | exact below_drewN0 _ _) ?_ | refine block_below (by first | assumption | exact below_alloc1 _ _ | exact below_drew1 _ | exact below_drewN0 _ _) ?_ | refine below_then ?_ (by first | assumption | exact below_alloc1 _ _ | exact below_drew1 _ | exact below_drewN0 _ _))))
    (first
      | (have hq_ := hB1; clear hq_; go_at_call 26; refine (within_any b a.k h HH.out _).mono ?_; rintro e w2 ⟨rfl, hB2⟩)
      | (go_at_call 26; refine (within_any a b.k g HG.out _).mono ?_; rintro e w1 ⟨rfl, hB1⟩)
      | fail)
  all_goals
    go_wp2_with fail
    all_goals
      go_ret
      exact ⟨ret_bool (by unfold meetsV; rw [HG.out, HH.out]; rfl), by repeat (first | assumption | exact Below.refl _ _ | ((with_reducible refine lit2 _ _ _ _ _ ?_); (first | (with_reducible rfl) | (simp; done))) | ((with_reducible refine lit1 _ _ _ _ ?_); (first | (with_reducible rfl) | (simp; done))) | refine row_step (by first | assumption | exact below_alloc1 _ _ | exact below_drew1 _ | exact below_drewN0 _ _) ?_ | refine block_below (by first | assumption | exact below_alloc1 _ _ | exact below_drew1 _ | exact below_drewN0 _ _) ?_ | refine below_then ?_ (by first | assumption | exact below_alloc1 _ _ | exact below_drew1 _ | exact below_drewN0 _ _))⟩

end Go.Proofs.Ytmffflckcpgjiaa
