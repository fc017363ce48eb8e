/-
  Counters as they lie in memory, and what an occurrence makes of one: no function of the program's.
-/
import Derived.Test.YtbkldbckcnnafaaBase
import Derived.Deep.RegionHeld3
import Derived.Deep.CutRange
import Derived.Lib.MinMax
import Derived.Laws.EntriesVeiled
import Derived.Maps.OwnOps
namespace Go.Proofs.Ytbkldbckcnnafaa
open Go.RowKit
set_option linter.unusedVariables false

theorem dec (p : Prop) [Decidable p] : (decide p = true ∧ p) ∨ (decide p = false ∧ ¬ p) := by
  by_cases h : p <;> simp [h]
theorem below_alloc1 (w : World) (o : Obj) : Below w.heap.size w (w.alloc o) := (Below.refl _ w).alloc (Nat.le_refl _) o
theorem below_drew1 (w : World) : Below w.heap.size w w.drew := (Below.refl _ w).drew
theorem block_below {w w' : World} {F : Nat} {o : Obj} (b : Below w.heap.size w w') (h : w.heap[F]? = some o) : w'.heap[F]? = some o :=
  (b.block F (Array.getElem?_eq_some_iff.1 h).1).trans h
theorem below_two (w : World) (o1 o2 : Obj) : Below w.heap.size w ((w.alloc o1).alloc o2) := below_then (below_alloc1 _ _) (below_alloc1 _ _)
theorem blk1 (w : World) (o1 o2 : Obj) : ((w.alloc o1).alloc o2).heap[w.heap.size]? = some o1 := block_below (below_alloc1 _ _) (World.alloc_heap_new _ _)
theorem blk2 (w : World) (o1 o2 : Obj) : ((w.alloc o1).alloc o2).heap[w.heap.size + 1]? = some o2 := by
  have := World.alloc_heap_new (w.alloc o1) o2
  simpa using this

/-- A counter as it lies in memory. -/
structure CV where
  t : Int
  r : Int
  s : Int
  q : Int
deriving DecidableEq
abbrev CV.v (c : CV) : Value := .agg #[.int .i64 c.t, .int .i64 c.r, .int .i64 c.s, .int .i64 c.q]
/-- A counter, or a tally, lies in block F. -/
abbrev HasC (w : World) (F : Nat) (c : CV) : Prop := w.heap[F]? = some (.cells #[.int .i64 c.t, .int .i64 c.r, .int .i64 c.s, .int .i64 c.q] 23)
abbrev HasY (w : World) (F : Nat) (c : CV) : Prop := w.heap[F]? = some (.cells #[.int .i64 c.t, .int .i64 c.r, .int .i64 c.s, .int .i64 c.q] 41)
theorem cells4 {w : World} {F : Nat} {a b c d : Value} {t : TypeId} (h : w.heap[F]? = some (.cells #[a, b, c, d] t)) :
    (w.cell? ⟨F, 0, none⟩ = some a ∧ w.cell? ⟨F, 1, none⟩ = some b ∧ w.cell? ⟨F, 2, none⟩ = some c ∧ w.cell? ⟨F, 3, none⟩ = some d) ∧
    w.frozen? ⟨F, 0, none⟩ = false ∧ w.frozen? ⟨F, 1, none⟩ = false ∧ w.frozen? ⟨F, 2, none⟩ = false ∧ w.frozen? ⟨F, 3, none⟩ = false := by
  simp [World.cell?, World.frozen?, h]
abbrev CC (W : World) (F : Nat) (c : CV) : Prop := W.cell? ⟨F, 0, none⟩ = some (.int .i64 c.t) ∧ W.cell? ⟨F, 1, none⟩ = some (.int .i64 c.r) ∧ W.cell? ⟨F, 2, none⟩ = some (.int .i64 c.s) ∧ W.cell? ⟨F, 3, none⟩ = some (.int .i64 c.q)
theorem HasC.cc {w : World} {F : Nat} {c : CV} (h : HasC w F c) : CC w F c := (cells4 h).1
theorem load_c {w : World} {F : Nat} {c : CV} (h : HasC w F c) : (loadVar 23 ⟨F, 0, none⟩).run Try.prog w = .ok c.v w := by
  obtain ⟨⟨c0, c1, c2, c3⟩, _⟩ := cells4 h
  simp [go_sem, c0, c1, c2, c3]
theorem load_y {w : World} {F : Nat} {c : CV} (h : HasY w F c) : (loadVar 41 ⟨F, 0, none⟩).run Try.prog w = .ok c.v w := by
  obtain ⟨⟨c0, c1, c2, c3⟩, _⟩ := cells4 h
  simp [go_sem, c0, c1, c2, c3]
theorem results_c {fn : Func} {p : Tmp} (hf : fn.results = #[.cell p 23]) (tmps : Array Value) {w : World} {F : Nat} {c : CV} (ht : tmps.getD p undef = .pointer (some ⟨F, 0, none⟩)) (h : HasC w F c) :
    (results fn tmps).run Try.prog w = .ok c.v w := by
  have hl := load_c h
  have ht' : tmps[p]?.getD undef = .pointer (some ⟨F, 0, none⟩) := by simpa using ht
  simp only [results, hf]
  simp [ht', asAddr, hl]
theorem results_y {fn : Func} {p : Tmp} (hf : fn.results = #[.cell p 41]) (tmps : Array Value) {w : World} {F : Nat} {c : CV} (ht : tmps.getD p undef = .pointer (some ⟨F, 0, none⟩)) (h : HasY w F c) :
    (results fn tmps).run Try.prog w = .ok c.v w := by
  have hl := load_y h
  have ht' : tmps[p]?.getD undef = .pointer (some ⟨F, 0, none⟩) := by simpa using ht
  simp only [results, hf]
  simp [ht', asAddr, hl]

def sameC (a b : CV) : Bool := decide (a = b)
theorem cv_ext {a b : CV} : a = b ↔ a.t = b.t ∧ a.r = b.r ∧ a.s = b.s ∧ a.q = b.q := by
  cases a; cases b; simp
set_option maxRecDepth 100000 in
theorem eqIn_c (t r s q t' r' s' q' : Int) (w : World) :
    (Op.equalIn 10000 23 (.agg #[.int .i64 t, .int .i64 r, .int .i64 s, .int .i64 q]) (.agg #[.int .i64 t', .int .i64 r', .int .i64 s', .int .i64 q'])).run Try.prog w = .ok (sameC ⟨t, r, s, q⟩ ⟨t', r', s', q'⟩) w := by
  by_cases h1 : t = t' <;> by_cases h2 : r = r' <;> by_cases h3 : s = s' <;> by_cases h4 : q = q' <;> simp [go_sem, sameC, h1, h2, h3, h4]
theorem eq_c (t r s q t' r' s' q' : Int) (w : World) :
    (binOp .eql 23 (.agg #[.int .i64 t, .int .i64 r, .int .i64 s, .int .i64 q]) (.agg #[.int .i64 t', .int .i64 r', .int .i64 s', .int .i64 q'])).run Try.prog w = .ok (.bool (sameC ⟨t, r, s, q⟩ ⟨t', r', s', q'⟩)) w := by
  rw [run_eql_struct, eqIn_c]
  rfl

/-- The counter of a new node; whether one is right. -/
def newV : CV := ⟨0, 0, 1, 0⟩
def OkC (c : CV) : Prop :=
  (c.s = 1 ∧ 0 ≤ c.t ∧ c.t ≤ 127 ∧ 0 ≤ c.r ∧ c.r ≤ 127 ∧ c.q = 0) ∨
  (c.s = 2 ∧ 0 ≤ c.t ∧ c.t ≤ 255 ∧ 0 ≤ c.r ∧ c.r ≤ 255 ∧ (127 < c.t ∨ 127 < c.r) ∧ c.q = 0) ∨
  (c.s = 3 ∧ c.t = 256 ∧ c.r = 0 ∧ 0 ≤ c.q ∧ c.q ≤ 127)
instance (c : CV) : Decidable (OkC c) := by unfold OkC; infer_instance
def rightV (c : CV) : Bool := decide (OkC c)
/-- What an occurrence makes of a counter. -/
def sentV (c : CV) : CV := ⟨max (c.t - 1) 0, c.r, c.s, c.q⟩
def heardV (c : CV) : CV := ⟨c.t, if 127 < c.r then 127 else max (c.r - 1) 0, c.s, c.q⟩
def wrongV (c : CV) : CV := ⟨c.t + 8, c.r, c.s, c.q⟩
def longV (b : Int) (c : CV) : CV := ⟨c.t, min (c.r + b) 255, c.s, c.q⟩
def settleV (c : CV) : CV := if 255 < c.t then ⟨256, 0, 3, 0⟩ else if 127 < c.t ∨ 127 < c.r then ⟨c.t, c.r, 2, c.q⟩ else ⟨c.t, c.r, 1, c.q⟩
def restV (c : CV) (k : Int) : CV := if k = 6 then (if c.q = 127 then newV else ⟨c.t, c.r, c.s, c.q + 1⟩) else c
def effV (c : CV) (k : Int) : CV := if k = 1 then sentV c else if k = 2 then heardV c else if k = 3 then wrongV c else if k = 4 then longV 1 c else if k = 5 then longV 8 c else c
def stepV (c : CV) (k : Int) : CV := if c.s = 3 then restV c k else settleV (effV c k)
def stepsV (c : CV) (l : List Int) : CV := l.foldl stepV c
theorem stepsV_snoc (c : CV) (l : List Int) (k : Int) : stepsV c (l ++ [k]) = stepV (stepsV c l) k := by simp [stepsV]
theorem stepsV_append (c : CV) (l m : List Int) : stepsV c (l ++ m) = stepsV (stepsV c l) m := by simp [stepsV]

theorem eff_ok (c : CV) (k : Int) (h : 0 ≤ c.t ∧ 0 ≤ c.r ∧ c.r ≤ 255) : 0 ≤ (effV c k).t ∧ (effV c k).t ≤ c.t + 8 ∧ 0 ≤ (effV c k).r ∧ (effV c k).r ≤ 255 ∧ (effV c k).q = c.q := by
  obtain ⟨t, r, s, q⟩ := c
  dsimp only at h
  unfold effV
  by_cases h1 : k = 1
  · rw [if_pos h1]; refine ⟨?_, ?_, ?_, ?_, rfl⟩ <;> dsimp only [sentV] <;> omega
  rw [if_neg h1]
  by_cases h2 : k = 2
  · rw [if_pos h2]
    refine ⟨?_, ?_, ?_, ?_, rfl⟩ <;> dsimp only [heardV] <;> (try split) <;> omega
  rw [if_neg h2]
  by_cases h3 : k = 3
  · rw [if_pos h3]; refine ⟨?_, ?_, ?_, ?_, rfl⟩ <;> dsimp only [wrongV] <;> omega
  rw [if_neg h3]
  by_cases h4 : k = 4
  · rw [if_pos h4]; refine ⟨?_, ?_, ?_, ?_, rfl⟩ <;> dsimp only [longV] <;> omega
  rw [if_neg h4]
  by_cases h5 : k = 5
  · rw [if_pos h5]; refine ⟨?_, ?_, ?_, ?_, rfl⟩ <;> dsimp only [longV] <;> omega
  rw [if_neg h5]
  refine ⟨?_, ?_, ?_, ?_, rfl⟩ <;> dsimp only <;> omega
theorem ok_settle (c : CV) (h : 0 ≤ c.t ∧ 0 ≤ c.r ∧ c.r ≤ 255) (hq : c.q = 0) : OkC (settleV c) := by
  obtain ⟨t, r, s, q⟩ := c
  dsimp only at h hq
  unfold settleV
  by_cases h1 : 255 < t
  · rw [if_pos h1]; exact .inr (.inr (by dsimp only; omega))
  rw [if_neg h1]
  by_cases h2 : 127 < t ∨ 127 < r
  · rw [if_pos h2]; exact .inr (.inl (by dsimp only; omega))
  · rw [if_neg h2]; exact .inl (by dsimp only; omega)
theorem ok_notOff {c : CV} (h : OkC c) (hs : c.s ≠ 3) : 0 ≤ c.t ∧ c.t ≤ 255 ∧ 0 ≤ c.r ∧ c.r ≤ 255 ∧ c.q = 0 := by
  unfold OkC at h; omega
theorem ok_rest (c : CV) (k : Int) (h : OkC c) (hs : c.s = 3) : OkC (restV c k) := by
  have h' : c.t = 256 ∧ c.r = 0 ∧ 0 ≤ c.q ∧ c.q ≤ 127 := by unfold OkC at h; omega
  obtain ⟨t, r, s, q⟩ := c
  dsimp only at h' hs
  unfold restV
  by_cases h1 : k = 6
  · rw [if_pos h1]
    by_cases h2 : q = 127
    · rw [if_pos h2]; exact .inl (by dsimp only [newV]; omega)
    · rw [if_neg h2]; exact .inr (.inr (by dsimp only; omega))
  · rw [if_neg h1]; exact h
/-- The next counter of a right one is right. -/
theorem ok_step (c : CV) (k : Int) (h : OkC c) : OkC (stepV c k) := by
  unfold stepV
  by_cases hs : c.s = 3
  · rw [if_pos hs]; exact ok_rest c k h hs
  · rw [if_neg hs]
    have h1 := ok_notOff h hs
    have h2 := eff_ok c k ⟨h1.1, h1.2.2.1, h1.2.2.2.1⟩
    exact ok_settle _ ⟨h2.1, h2.2.2.1, h2.2.2.2.1⟩ (h2.2.2.2.2.trans h1.2.2.2.2)
theorem ok_steps (l : List Int) : ∀ (c : CV), OkC c → OkC (stepsV c l) := by
  induction l with
  | nil => intro c h; exact h
  | cons k l ih => intro c h; exact ih _ (ok_step c k h)
/-- Of a counter that is right. -/
theorem ok_box {c : CV} (h : OkC c) : 0 ≤ c.t ∧ c.t ≤ 256 ∧ 0 ≤ c.r ∧ c.r ≤ 255 ∧ 0 ≤ c.q ∧ c.q ≤ 127 := by
  unfold OkC at h; omega
theorem ok_new : OkC newV := by unfold OkC newV; simp

end Go.Proofs.Ytbkldbckcnnafaa
