/-
  Cnt0 · Cnt1 · Cnt2 · Cnt3 · Cnt4 · Cnt5 · Cnt6: what this seat needs of them.
-/
import Derived.Test.YtlbgilbigcnleaaNBi
import Derived.Test.YtlbgilbigcnleaaNFr
import Derived.Test.YtlbgilbigcnleaaNRk
import Derived.Test.YtlbgilbigcnleaaNAm
import Derived.Test.YtlbgilbigcnleaaNAr
import Derived.Test.YtlbgilbigcnleaaNFi
import Derived.Deep.RegionHeld3
import Derived.Deep.CutRange
import Derived.Lib.MinMax
import Derived.Laws.EntriesVeiled
import Derived.Maps.OwnOps
import Derived.Deep.RegionWith
namespace Go.Proofs.Ytlbgilbigcnleaa
open Go.RowKit
set_option linter.unusedVariables false
set_option linter.unusedSimpArgs false

theorem blk2_NCn (w : World) (o1 o2 : Obj) : ((w.alloc o1).alloc o2).heap[w.heap.size + 1]? = some o2 := by
  have := World.alloc_heap_new (w.alloc o1) o2
  simpa using this

/-- A counter as it lies in memory. -/
structure CV where
  t : Int
  r : Int
  s : Int
  q : Int
deriving DecidableEq

abbrev CV.v (c : CV) : Value := .agg #[.int .i64 c.t, .int .i64 c.r, .int .i64 c.s, .int .i64 c.q]

/-- A counter, or a tally, lies in block F. -/
abbrev HasC (w : World) (F : Nat) (c : CV) : Prop := w.heap[F]? = some (.cells #[.int .i64 c.t, .int .i64 c.r, .int .i64 c.s, .int .i64 c.q] 25)

abbrev HasY (w : World) (F : Nat) (c : CV) : Prop := w.heap[F]? = some (.cells #[.int .i64 c.t, .int .i64 c.r, .int .i64 c.s, .int .i64 c.q] 111)

theorem cells4 {w : World} {F : Nat} {a b c d : Value} {t : TypeId} (h : w.heap[F]? = some (.cells #[a, b, c, d] t)) :
    (w.cell? ⟨F, 0, none⟩ = some a ∧ w.cell? ⟨F, 1, none⟩ = some b ∧ w.cell? ⟨F, 2, none⟩ = some c ∧ w.cell? ⟨F, 3, none⟩ = some d) ∧
    w.frozen? ⟨F, 0, none⟩ = false ∧ w.frozen? ⟨F, 1, none⟩ = false ∧ w.frozen? ⟨F, 2, none⟩ = false ∧ w.frozen? ⟨F, 3, none⟩ = false := by
  simp [World.cell?, World.frozen?, h]

abbrev CC (W : World) (F : Nat) (c : CV) : Prop := W.cell? ⟨F, 0, none⟩ = some (.int .i64 c.t) ∧ W.cell? ⟨F, 1, none⟩ = some (.int .i64 c.r) ∧ W.cell? ⟨F, 2, none⟩ = some (.int .i64 c.s) ∧ W.cell? ⟨F, 3, none⟩ = some (.int .i64 c.q)

theorem HasC.cc {w : World} {F : Nat} {c : CV} (h : HasC w F c) : CC w F c := (cells4 h).1

theorem load_c {w : World} {F : Nat} {c : CV} (h : HasC w F c) : (loadVar 25 ⟨F, 0, none⟩).run Try.prog w = .ok c.v w := by
  obtain ⟨⟨c0, c1, c2, c3⟩, _⟩ := cells4 h
  simp [go_sem, c0, c1, c2, c3]

theorem load_y {w : World} {F : Nat} {c : CV} (h : HasY w F c) : (loadVar 111 ⟨F, 0, none⟩).run Try.prog w = .ok c.v w := by
  obtain ⟨⟨c0, c1, c2, c3⟩, _⟩ := cells4 h
  simp [go_sem, c0, c1, c2, c3]

theorem results_c {fn : Func} {p : Tmp} (hf : fn.results = #[.cell p 25]) (tmps : Array Value) {w : World} {F : Nat} {c : CV} (ht : tmps.getD p undef = .pointer (some ⟨F, 0, none⟩)) (h : HasC w F c) :
    (results fn tmps).run Try.prog w = .ok c.v w := by
  have hl := load_c h
  have ht' : tmps[p]?.getD undef = .pointer (some ⟨F, 0, none⟩) := by simpa using ht
  simp only [results, hf]
  simp [ht', asAddr, hl]

theorem results_y {fn : Func} {p : Tmp} (hf : fn.results = #[.cell p 111]) (tmps : Array Value) {w : World} {F : Nat} {c : CV} (ht : tmps.getD p undef = .pointer (some ⟨F, 0, none⟩)) (h : HasY w F c) :
    (results fn tmps).run Try.prog w = .ok c.v w := by
  have hl := load_y h
  have ht' : tmps[p]?.getD undef = .pointer (some ⟨F, 0, none⟩) := by simpa using ht
  simp only [results, hf]
  simp [ht', asAddr, hl]

def sameC (a b : CV) : Bool := decide (a = b)

theorem cv_ext {a b : CV} : a = b ↔ a.t = b.t ∧ a.r = b.r ∧ a.s = b.s ∧ a.q = b.q := by
  cases a; cases b; simp

set_option maxRecDepth 100000 in
theorem eqIn_c (t r s q t' r' s' q' : Int) (w : World) :
    (Op.equalIn 10000 25 (.agg #[.int .i64 t, .int .i64 r, .int .i64 s, .int .i64 q]) (.agg #[.int .i64 t', .int .i64 r', .int .i64 s', .int .i64 q'])).run Try.prog w = .ok (sameC ⟨t, r, s, q⟩ ⟨t', r', s', q'⟩) w := by
  by_cases h1 : t = t' <;> by_cases h2 : r = r' <;> by_cases h3 : s = s' <;> by_cases h4 : q = q' <;> simp [go_sem, sameC, h1, h2, h3, h4]

theorem eq_c (t r s q t' r' s' q' : Int) (w : World) :
    (binOp .eql 25 (.agg #[.int .i64 t, .int .i64 r, .int .i64 s, .int .i64 q]) (.agg #[.int .i64 t', .int .i64 r', .int .i64 s', .int .i64 q'])).run Try.prog w = .ok (.bool (sameC ⟨t, r, s, q⟩ ⟨t', r', s', q'⟩)) w := by
  rw [run_eql_struct, eqIn_c]
  rfl

/-- The counter of a new node; whether one is right. -/
def newV : CV := ⟨0, 0, 1, 0⟩

def OkC (c : CV) : Prop :=
  (c.s = 1 ∧ 0 ≤ c.t ∧ c.t ≤ 127 ∧ 0 ≤ c.r ∧ c.r ≤ 127 ∧ c.q = 0) ∨
  (c.s = 2 ∧ 0 ≤ c.t ∧ c.t ≤ 255 ∧ 0 ≤ c.r ∧ c.r ≤ 255 ∧ (127 < c.t ∨ 127 < c.r) ∧ c.q = 0) ∨
  (c.s = 3 ∧ c.t = 256 ∧ c.r = 0 ∧ 0 ≤ c.q ∧ c.q ≤ 127)

instance (c : CV) : Decidable (OkC c) := by unfold OkC; infer_instance

def rightV_NCn (c : CV) : Bool := decide (OkC c)

/-- What an occurrence makes of a counter. -/
def sentV (c : CV) : CV := ⟨max (c.t - 1) 0, c.r, c.s, c.q⟩

def heardV (c : CV) : CV := ⟨c.t, if 127 < c.r then 127 else max (c.r - 1) 0, c.s, c.q⟩

def wrongV (c : CV) : CV := ⟨c.t + 8, c.r, c.s, c.q⟩

def longV (b : Int) (c : CV) : CV := ⟨c.t, min (c.r + b) 255, c.s, c.q⟩

def settleV (c : CV) : CV := if 255 < c.t then ⟨256, 0, 3, 0⟩ else if 127 < c.t ∨ 127 < c.r then ⟨c.t, c.r, 2, c.q⟩ else ⟨c.t, c.r, 1, c.q⟩

def restV (c : CV) (k : Int) : CV := if k = 6 then (if c.q = 127 then newV else ⟨c.t, c.r, c.s, c.q + 1⟩) else c

def effV (c : CV) (k : Int) : CV := if k = 1 then sentV c else if k = 2 then heardV c else if k = 3 then wrongV c else if k = 4 then longV 1 c else if k = 5 then longV 8 c else c

def stepV (c : CV) (k : Int) : CV := if c.s = 3 then restV c k else settleV (effV c k)

def stepsV (c : CV) (l : List Int) : CV := l.foldl stepV c

theorem stepsV_snoc (c : CV) (l : List Int) (k : Int) : stepsV c (l ++ [k]) = stepV (stepsV c l) k := by simp [stepsV]

theorem stepsV_append (c : CV) (l m : List Int) : stepsV c (l ++ m) = stepsV (stepsV c l) m := by simp [stepsV]

theorem eff_ok (c : CV) (k : Int) (h : 0 ≤ c.t ∧ 0 ≤ c.r ∧ c.r ≤ 255) : 0 ≤ (effV c k).t ∧ (effV c k).t ≤ c.t + 8 ∧ 0 ≤ (effV c k).r ∧ (effV c k).r ≤ 255 ∧ (effV c k).q = c.q := by
  obtain ⟨t, r, s, q⟩ := c
  dsimp only at h
  unfold effV
  by_cases h1 : k = 1
  · rw [if_pos h1]; refine ⟨?_, ?_, ?_, ?_, rfl⟩ <;> dsimp only [sentV] <;> omega
  rw [if_neg h1]
  by_cases h2 : k = 2
  · rw [if_pos h2]
    refine ⟨?_, ?_, ?_, ?_, rfl⟩ <;> dsimp only [heardV] <;> (try split) <;> omega
  rw [if_neg h2]
  by_cases h3 : k = 3
  · rw [if_pos h3]; refine ⟨?_, ?_, ?_, ?_, rfl⟩ <;> dsimp only [wrongV] <;> omega
  rw [if_neg h3]
  by_cases h4 : k = 4
  · rw [if_pos h4]; refine ⟨?_, ?_, ?_, ?_, rfl⟩ <;> dsimp only [longV] <;> omega
  rw [if_neg h4]
  by_cases h5 : k = 5
  · rw [if_pos h5]; refine ⟨?_, ?_, ?_, ?_, rfl⟩ <;> dsimp only [longV] <;> omega
  rw [if_neg h5]
  refine ⟨?_, ?_, ?_, ?_, rfl⟩ <;> dsimp only <;> omega

theorem ok_settle (c : CV) (h : 0 ≤ c.t ∧ 0 ≤ c.r ∧ c.r ≤ 255) (hq : c.q = 0) : OkC (settleV c) := by
  obtain ⟨t, r, s, q⟩ := c
  dsimp only at h hq
  unfold settleV
  by_cases h1 : 255 < t
  · rw [if_pos h1]; exact .inr (.inr (by dsimp only; omega))
  rw [if_neg h1]
  by_cases h2 : 127 < t ∨ 127 < r
  · rw [if_pos h2]; exact .inr (.inl (by dsimp only; omega))
  · rw [if_neg h2]; exact .inl (by dsimp only; omega)

theorem ok_notOff {c : CV} (h : OkC c) (hs : c.s ≠ 3) : 0 ≤ c.t ∧ c.t ≤ 255 ∧ 0 ≤ c.r ∧ c.r ≤ 255 ∧ c.q = 0 := by
  unfold OkC at h; omega

theorem ok_rest (c : CV) (k : Int) (h : OkC c) (hs : c.s = 3) : OkC (restV c k) := by
  have h' : c.t = 256 ∧ c.r = 0 ∧ 0 ≤ c.q ∧ c.q ≤ 127 := by unfold OkC at h; omega
  obtain ⟨t, r, s, q⟩ := c
  dsimp only at h' hs
  unfold restV
  by_cases h1 : k = 6
  · rw [if_pos h1]
    by_cases h2 : q = 127
    · rw [if_pos h2]; exact .inl (by dsimp only [newV]; omega)
    · rw [if_neg h2]; exact .inr (.inr (by dsimp only; omega))
  · rw [if_neg h1]; exact h

/-- The next counter of a right one is right. -/
theorem ok_step (c : CV) (k : Int) (h : OkC c) : OkC (stepV c k) := by
  unfold stepV
  by_cases hs : c.s = 3
  · rw [if_pos hs]; exact ok_rest c k h hs
  · rw [if_neg hs]
    have h1 := ok_notOff h hs
    have h2 := eff_ok c k ⟨h1.1, h1.2.2.1, h1.2.2.2.1⟩
    exact ok_settle _ ⟨h2.1, h2.2.2.1, h2.2.2.2.1⟩ (h2.2.2.2.2.trans h1.2.2.2.2)

theorem ok_steps (l : List Int) : ∀ (c : CV), OkC c → OkC (stepsV c l) := by
  induction l with
  | nil => intro c h; exact h
  | cons k l ih => intro c h; exact ih _ (ok_step c k h)

/-- Of a counter that is right. -/
theorem ok_box {c : CV} (h : OkC c) : 0 ≤ c.t ∧ c.t ≤ 256 ∧ 0 ≤ c.r ∧ c.r ≤ 255 ∧ 0 ≤ c.q ∧ c.q ≤ 127 := by
  unfold OkC at h; omega

theorem ok_new : OkC newV := by unfold OkC newV; simp

theorem below_grownF {w0 w w' : World} {F : Nat} (b : Below w0.heap.size w0 w) (g : w.grownBy w' (some F)) (hF : w0.heap.size ≤ F) : Below w0.heap.size w0 w' :=
  ⟨g.os.trans b.os, g.tape.trans b.tape, g.output.trans b.output, Nat.le_trans b.size g.size, fun k hk => (g.block k (Nat.lt_of_lt_of_le hk b.size) (by simp; omega)).trans (b.block k hk)⟩

theorem other_grownF {w w' : World} {F G : Nat} {o : Obj} (g : w.grownBy w' (some F)) (h : w.heap[G]? = some o) (hne : G ≠ F) : w'.heap[G]? = some o :=
  (g.block G (Array.getElem?_eq_some_iff.1 h).1 (by simpa using hne)).trans h

/-- A counter stored over one. -/
def set4 (w : World) (F : Nat) (a b c d : Value) : World := (((w.setCell ⟨F, 0, none⟩ a).setCell ⟨F, 1, none⟩ b).setCell ⟨F, 2, none⟩ c).setCell ⟨F, 3, none⟩ d

theorem set4_obj {w : World} {F : Nat} {a b c d : Value} {t : TypeId} (h : w.heap[F]? = some (.cells #[a, b, c, d] t)) (a' b' c' d' : Value) :
    (set4 w F a' b' c' d').heap[F]? = some (.cells #[a', b', c', d'] t) := by
  simp [set4, World.setCell, Array.getElem?_modify, h]

theorem set4_grown (w : World) (F : Nat) (a b c d : Value) : w.grownBy (set4 w F a b c d) (some F) :=
  (((grown_setAt w F 0 a).trans (grown_setAt _ F 1 b)).trans (grown_setAt _ F 2 c)).trans (grown_setAt _ F 3 d)

set_option maxRecDepth 100000 in
set_option maxHeartbeats 1000000 in
theorem sent_any (c d : CV) (hd : sentV c = d) (h : 0 ≤ c.t ∧ c.t ≤ 1000) (w : World) :
    Calls Try.prog 92 #[c.v] w fun e w' => e = .returned d.v ∧ Below w.heap.size w w' := by
  have h1 : IntKind.i64.wrap (c.t - 1) = c.t - 1 := by rw [IntKind.wrap_i64]; omega
  have h2 : wrap64 (c.t - 1) = c.t - 1 := by unfold wrap64; omega
  obtain ⟨m, hm⟩ : ∃ m, max (c.t - 1) 0 = m := ⟨_, rfl⟩
  go_enter Try.func92, Try.ntmps92
  go_wp2_with fail
  refine bodyPost_ret (v := d.v) (results_y rfl _ rfl ?_) rfl ⟨rfl, ?_⟩
  · subst hd
    have := blk2_NCn w (.cells #[.int .i64 m, .int .i64 c.r, .int .i64 c.s, .int .i64 c.q] 111) (.cells #[.int .i64 m, .int .i64 c.r, .int .i64 c.s, .int .i64 c.q] 111)
    simpa [HasY, sentV, hm] using this
  · exact below_two _ _ _

set_option maxRecDepth 100000 in
set_option maxHeartbeats 1000000 in
theorem heard_any (c d : CV) (hd : heardV c = d) (h : 0 ≤ c.r ∧ c.r ≤ 1000) (w : World) :
    Calls Try.prog 93 #[c.v] w fun e w' => e = .returned d.v ∧ Below w.heap.size w w' := by
  have h1 : IntKind.i64.wrap (c.r - 1) = c.r - 1 := by rw [IntKind.wrap_i64]; omega
  have h2 : wrap64 (c.r - 1) = c.r - 1 := by unfold wrap64; omega
  obtain ⟨m, hm⟩ : ∃ m, max (c.r - 1) 0 = m := ⟨_, rfl⟩
  by_cases h3 : 127 < c.r
  · obtain rfl : d = ⟨c.t, 127, c.s, c.q⟩ := by rw [← hd]; simp [heardV, h3]
    clear hd
    go_enter Try.func93, Try.ntmps93
    go_wp2_with fail
    refine bodyPost_ret (v := CV.v ⟨c.t, 127, c.s, c.q⟩) (results_y (c := ⟨c.t, 127, c.s, c.q⟩) rfl _ rfl ?_) rfl ⟨rfl, ?_⟩
    · have := blk2_NCn w (.cells #[.int .i64 c.t, .int .i64 127, .int .i64 c.s, .int .i64 c.q] 111) (.cells #[.int .i64 c.t, .int .i64 127, .int .i64 c.s, .int .i64 c.q] 111)
      simpa [HasY, heardV, h3] using this
    · exact below_two _ _ _
  · obtain rfl : d = ⟨c.t, m, c.s, c.q⟩ := by rw [← hd]; simp [heardV, h3, hm]
    clear hd
    go_enter Try.func93, Try.ntmps93
    go_wp2_with fail
    refine bodyPost_ret (v := CV.v ⟨c.t, m, c.s, c.q⟩) (results_y (c := ⟨c.t, m, c.s, c.q⟩) rfl _ rfl ?_) rfl ⟨rfl, ?_⟩
    · have := blk2_NCn w (.cells #[.int .i64 c.t, .int .i64 m, .int .i64 c.s, .int .i64 c.q] 111) (.cells #[.int .i64 c.t, .int .i64 m, .int .i64 c.s, .int .i64 c.q] 111)
      simpa [HasY, heardV, h3, hm] using this
    · exact below_two _ _ _

set_option maxRecDepth 100000 in
set_option maxHeartbeats 1000000 in
theorem wrong_any (c d : CV) (hd : wrongV c = d) (h : 0 ≤ c.t ∧ c.t ≤ 1000) (w : World) :
    Calls Try.prog 94 #[c.v] w fun e w' => e = .returned d.v ∧ Below w.heap.size w w' := by
  have h1 : IntKind.i64.wrap (c.t + 8) = c.t + 8 := by rw [IntKind.wrap_i64]; omega
  have h2 : wrap64 (c.t + 8) = c.t + 8 := by unfold wrap64; omega
  go_enter Try.func94, Try.ntmps94
  go_wp2_with fail
  refine bodyPost_ret (v := d.v) (results_y rfl _ rfl ?_) rfl ⟨rfl, ?_⟩
  · subst hd
    have := blk2_NCn w (.cells #[.int .i64 (c.t + 8), .int .i64 c.r, .int .i64 c.s, .int .i64 c.q] 111) (.cells #[.int .i64 (c.t + 8), .int .i64 c.r, .int .i64 c.s, .int .i64 c.q] 111)
    simpa [HasY, wrongV] using this
  · exact below_two _ _ _

set_option maxRecDepth 100000 in
set_option maxHeartbeats 1000000 in
theorem long_any (b : Int) (hb : 0 ≤ b ∧ b ≤ 1000) (c d : CV) (hd : longV b c = d) (h : 0 ≤ c.r ∧ c.r ≤ 1000) (X : Nat) (w : World) (hX : w.cell? ⟨X, 0, none⟩ = some (.int .i64 b)) :
    Calls Try.prog 91 #[c.v, .pointer (some ⟨X, 0, none⟩)] w fun e w' => e = .returned d.v ∧ Below w.heap.size w w' := by
  have h1 : IntKind.i64.wrap (c.r + b) = c.r + b := by rw [IntKind.wrap_i64]; omega
  have h2 : wrap64 (c.r + b) = c.r + b := by unfold wrap64; omega
  obtain ⟨m, hm⟩ : ∃ m, min (c.r + b) 255 = m := ⟨_, rfl⟩
  have hl := World.block_lt_of_cell? w _ hX
  have hX2 : ∀ o1 o2, ((w.alloc o1).alloc o2).cell? ⟨X, 0, none⟩ = some (.int .i64 b) := fun o1 o2 => ((below_two w o1 o2).cell hl).trans hX
  go_enter Try.func91, Try.ntmps91
  go_wp2_with fail
  refine bodyPost_ret (v := d.v) (results_y rfl _ rfl ?_) rfl ⟨rfl, ?_⟩
  · subst hd
    have := blk2_NCn w (.cells #[.int .i64 c.t, .int .i64 m, .int .i64 c.s, .int .i64 c.q] 111) (.cells #[.int .i64 c.t, .int .i64 m, .int .i64 c.s, .int .i64 c.q] 111)
    simpa [HasY, longV, hm] using this
  · exact below_two _ _ _

set_option maxRecDepth 100000 in
set_option maxHeartbeats 1000000 in
theorem made_any (b : Int) (w : World) :
    Calls Try.prog 90 #[.int .i64 b] w fun e w' => ∃ X, e = .returned (.func (.func 91) #[] #[.pointer (some ⟨X, 0, none⟩)]) ∧ w.heap.size ≤ X ∧ w'.heap[X]? = some (.cells #[.int .i64 b] 3) ∧ Below w.heap.size w w' := by
  go_enter Try.func90, Try.ntmps90
  go_wp2_with fail
  go_ret
  exact ⟨w.heap.size, rfl, Nat.le_refl _, World.alloc_heap_new _ _, below_alloc1 _ _⟩

set_option maxRecDepth 100000 in
set_option maxHeartbeats 1000000 in
theorem new_any (w : World) :
    Calls Try.prog 40 #[] w fun e w' => e = .returned newV.v ∧ Below w.heap.size w w' := by
  go_enter Try.func40, Try.ntmps40
  go_wp2_with fail
  refine bodyPost_ret (v := newV.v) (results_c rfl _ rfl ?_) rfl ⟨rfl, below_alloc1 _ _⟩
  have := World.alloc_heap_new w (.cells #[.int .i64 0, .int .i64 0, .int .i64 1, .int .i64 0] 25)
  simpa [HasC, newV] using this

set_option maxRecDepth 100000 in
set_option maxHeartbeats 1000000 in
theorem refNew_any (w : World) :
    Calls Try.prog 35 #[] w fun e w' => e = .returned newV.v ∧ Below w.heap.size w w' := by
  go_enter Try.func35, Try.ntmps35
  go_wp2_with fail
  refine bodyPost_ret (v := newV.v) (results_c rfl _ rfl ?_) rfl ⟨rfl, below_alloc1 _ _⟩
  have := World.alloc_heap_new w (.cells #[.int .i64 0, .int .i64 0, .int .i64 1, .int .i64 0] 25)
  simpa [HasC, newV] using this

set_option maxRecDepth 100000 in
set_option maxHeartbeats 1000000 in
theorem settle_any (c d : CV) (hd : settleV c = d) (w : World) :
    Calls Try.prog 96 #[c.v] w fun e w' => e = .returned d.v ∧ Below w.heap.size w w' := by
  by_cases h1 : 255 < c.t
  · obtain rfl : d = ⟨256, 0, 3, 0⟩ := by rw [← hd]; simp [settleV, h1]
    clear hd
    go_enter Try.func96, Try.ntmps96
    go_wp2_with fail
    refine bodyPost_ret (v := CV.v ⟨256, 0, 3, 0⟩) (results_c (c := ⟨256, 0, 3, 0⟩) rfl _ rfl ?_) rfl ⟨rfl, ?_⟩
    · have := blk2_NCn w (.cells #[.int .i64 c.t, .int .i64 c.r, .int .i64 c.s, .int .i64 c.q] 25) (.cells #[.int .i64 256, .int .i64 0, .int .i64 3, .int .i64 0] 25)
      simpa [HasC, settleV, h1] using this
    · exact below_two _ _ _
  · by_cases h2 : 127 < c.t
    · obtain rfl : d = ⟨c.t, c.r, 2, c.q⟩ := by rw [← hd]; simp [settleV, h1, h2]
      clear hd
      go_enter Try.func96, Try.ntmps96
      go_wp2_with fail
      refine bodyPost_ret (v := CV.v ⟨c.t, c.r, 2, c.q⟩) (results_c (c := ⟨c.t, c.r, 2, c.q⟩) rfl _ rfl ?_) rfl ⟨rfl, ?_⟩
      · have := blk2_NCn w (.cells #[.int .i64 c.t, .int .i64 c.r, .int .i64 2, .int .i64 c.q] 25) (.cells #[.int .i64 c.t, .int .i64 c.r, .int .i64 2, .int .i64 c.q] 25)
        simpa [HasC, settleV, h1, h2] using this
      · exact below_two _ _ _
    · by_cases h3 : 127 < c.r
      · obtain rfl : d = ⟨c.t, c.r, 2, c.q⟩ := by rw [← hd]; simp [settleV, h1, h2, h3]
        clear hd
        go_enter Try.func96, Try.ntmps96
        go_wp2_with fail
        refine bodyPost_ret (v := CV.v ⟨c.t, c.r, 2, c.q⟩) (results_c (c := ⟨c.t, c.r, 2, c.q⟩) rfl _ rfl ?_) rfl ⟨rfl, ?_⟩
        · have := blk2_NCn w (.cells #[.int .i64 c.t, .int .i64 c.r, .int .i64 2, .int .i64 c.q] 25) (.cells #[.int .i64 c.t, .int .i64 c.r, .int .i64 2, .int .i64 c.q] 25)
          simpa [HasC, settleV, h1, h2, h3] using this
        · exact below_two _ _ _
      · obtain rfl : d = ⟨c.t, c.r, 1, c.q⟩ := by rw [← hd]; simp [settleV, h1, h2, h3]
        clear hd
        go_enter Try.func96, Try.ntmps96
        go_wp2_with fail
        refine bodyPost_ret (v := CV.v ⟨c.t, c.r, 1, c.q⟩) (results_c (c := ⟨c.t, c.r, 1, c.q⟩) rfl _ rfl ?_) rfl ⟨rfl, ?_⟩
        · have := blk2_NCn w (.cells #[.int .i64 c.t, .int .i64 c.r, .int .i64 1, .int .i64 c.q] 25) (.cells #[.int .i64 c.t, .int .i64 c.r, .int .i64 1, .int .i64 c.q] 25)
          simpa [HasC, settleV, h1, h2, h3] using this
        · exact below_two _ _ _

set_option maxRecDepth 100000 in
set_option maxHeartbeats 1000000 in
theorem within_any (n m : Int) (w : World) :
    Calls Try.prog 65 #[.int .i64 n, .int .i64 m] w fun e w' => e = .returned (.bool (decide (0 ≤ n ∧ n ≤ m))) ∧ w' = w := by
  by_cases h : 0 ≤ n
  all_goals
    go_enter Try.func65, Try.ntmps65
    go_wp2_with fail
    go_ret
    exact ⟨ret_bool (by rw [Bool.eq_iff_iff]; simp; omega), rfl⟩

/-- A map that lies in block B. -/
abbrev entry (k : Int) (v : Value) (n : Nat) : MapEntry := ⟨.int .i64 k, v, n⟩

abbrev fnv (f : Nat) : Value := .func (.func f) #[] #[]

abbrev clo (X : Nat) : Value := .func (.func 91) #[] #[.pointer (some ⟨X, 0, none⟩)]

def tab (X Y : Nat) : Array MapEntry := #[entry 1 (fnv 92) 0, entry 2 (fnv 93) 1, entry 3 (fnv 94) 2, entry 4 (clo X) 3, entry 5 (clo Y) 4]

/-- The table lies in block B. -/
structure HasT (w : World) (B X Y : Nat) : Prop where
  map : w.heap[B]? = some (.map (tab X Y) 5)
  one : w.heap[X]? = some (.cells #[.int .i64 1] 3)
  two : w.heap[Y]? = some (.cells #[.int .i64 8] 3)

theorem HasT.to {w w' : World} {B X Y : Nat} (h : HasT w B X Y) (b : Below w.heap.size w w') : HasT w' B X Y :=
  ⟨block_below b h.map, block_below b h.one, block_below b h.two⟩

theorem Try.underMap : Try.prog.underlying 103 = some (.map 3 110) := by kernel_rfl

theorem Try.underInt : Try.prog.underlying 3 = some (.int .i64) := by kernel_rfl

open Go.MapKept in

theorem run_put (w : World) (B : Nat) (es : Array MapEntry) (n : Nat) (h : w.heap[B]? = some (.map es n)) (k : Int) (v : Value) (hf : Instr.findNow (.int .i64) (.int .i64 k) es.toList 0 = some none) :
    ∃ w', (Instr.mapUpdate 103 (.map (some B)) (.int .i64 k) v).run Try.prog w = .ok () w' ∧ w'.heap[B]? = some (.map (es.push ⟨.int .i64 k, v, n⟩) (n + 1)) ∧ w.grownBy w' (some B) := by
  have hkey : IsKey (.int .i64) (.int .i64 k) := by simp [IsKey]
  refine ⟨ChangeMaps.setBlock w B (.map (es.push ⟨.int .i64 k, v, n⟩) (n + 1)), ?_, ChangeMaps.heap_setBlock_same h _, ⟨rfl, rfl, rfl, by simp [ChangeMaps.setBlock], fun i _ hi => ChangeMaps.heap_setBlock_other h _ (fun e => hi (by rw [e]))⟩⟩
  simp [Instr.mapUpdate, run_underlying Try.underMap, Go.MapKept.run_getObj_map h, run_checkKey Try.underInt hkey, run_findKey Try.underInt hf, run_setObj_map _ h, Result.andThen, ChangeMaps.setBlock]

/-- An entry is put into a map that the call itself makes. -/
theorem wpList_put (w : World) {ops : Array Oper} {rest : List Oper} {o : Oper} {a : Act} {Q : Exit → Act → World → Prop} (hg : o.guard = none) (m x v : Operand)
    (hop : o.op = Op.insert 103 m x v) (B : Nat) (es : Array MapEntry) (n : Nat) (k : Int) (val : Value)
    (hm : a.eval m = .map (some B)) (hx : a.eval x = .int .i64 k) (hv : a.eval v = val) (h : w.heap[B]? = some (.map es n)) (hf : Instr.findNow (.int .i64) (.int .i64 k) es.toList 0 = some none)
    (hK : ∀ w', w'.heap[B]? = some (.map (es.push ⟨.int .i64 k, val, n⟩) (n + 1)) → w.grownBy w' (some B) → wpList Try.prog ops Q rest (a.put o.dst undef) w') : wpList Try.prog ops Q (o :: rest) a w := by
  refine wpList_plain hg fun K' hK' => ?_
  obtain ⟨w', hrun, r1, r2⟩ := run_put w B es n h k val hf
  unfold Oper.wp
  simp [execOp, hop, hm, hx, hv, hrun, Result.andThen]
  exact hK' _ _ (hK w' r1 r2)

open Go.MapKept in

theorem run_look (w : World) (B : Nat) (es : Array MapEntry) (n : Nat) (h : w.heap[B]? = some (.map es n)) (k : Int) (j : Nat) (v : Value) (hf : Instr.findNow (.int .i64) (.int .i64 k) es.toList 0 = some (some (j, v))) :
    (Instr.lookup 103 (.map (some B)) (.int .i64 k) true).run Try.prog w = .ok (.tuple #[v, .bool true]) w := by
  have hkey : IsKey (.int .i64) (.int .i64 k) := by simp [IsKey]
  simp [Instr.lookup, run_underlying Try.underMap, Go.MapKept.run_getObj_map h, run_checkKey Try.underInt hkey, run_findKey Try.underInt hf, Result.andThen]

theorem Try.zeroE (w : World) : (zeroValue 110).run Try.prog w = .ok .nilFunc w := by kernel_rfl

open Go.MapKept in

theorem run_none (w : World) (B : Nat) (es : Array MapEntry) (n : Nat) (h : w.heap[B]? = some (.map es n)) (k : Int) (hf : Instr.findNow (.int .i64) (.int .i64 k) es.toList 0 = some none) :
    (Instr.lookup 103 (.map (some B)) (.int .i64 k) true).run Try.prog w = .ok (.tuple #[.nilFunc, .bool false]) w := by
  have hkey : IsKey (.int .i64) (.int .i64 k) := by simp [IsKey]
  simp [Instr.lookup, run_underlying Try.underMap, Go.MapKept.run_getObj_map h, run_checkKey Try.underInt hkey, run_findKey Try.underInt hf, Try.zeroE, Result.andThen]

theorem look1 {w : World} {B X Y : Nat} (h : HasT w B X Y) : (Instr.lookup 103 (.map (some B)) (.int .i64 1) true).run Try.prog w = .ok (.tuple #[fnv 92, .bool true]) w := run_look w B _ _ h.map 1 0 _ rfl

theorem look2 {w : World} {B X Y : Nat} (h : HasT w B X Y) : (Instr.lookup 103 (.map (some B)) (.int .i64 2) true).run Try.prog w = .ok (.tuple #[fnv 93, .bool true]) w := run_look w B _ _ h.map 2 1 _ rfl

theorem look3 {w : World} {B X Y : Nat} (h : HasT w B X Y) : (Instr.lookup 103 (.map (some B)) (.int .i64 3) true).run Try.prog w = .ok (.tuple #[fnv 94, .bool true]) w := run_look w B _ _ h.map 3 2 _ rfl

theorem look4 {w : World} {B X Y : Nat} (h : HasT w B X Y) : (Instr.lookup 103 (.map (some B)) (.int .i64 4) true).run Try.prog w = .ok (.tuple #[clo X, .bool true]) w := run_look w B _ _ h.map 4 3 _ rfl

theorem look5 {w : World} {B X Y : Nat} (h : HasT w B X Y) : (Instr.lookup 103 (.map (some B)) (.int .i64 5) true).run Try.prog w = .ok (.tuple #[clo Y, .bool true]) w := run_look w B _ _ h.map 5 4 _ rfl

theorem look0 {w : World} {B X Y : Nat} (h : HasT w B X Y) {k : Int} (hk : k ≠ 1 ∧ k ≠ 2 ∧ k ≠ 3 ∧ k ≠ 4 ∧ k ≠ 5) : (Instr.lookup 103 (.map (some B)) (.int .i64 k) true).run Try.prog w = .ok (.tuple #[.nilFunc, .bool false]) w :=
  run_none w B _ _ h.map k (by obtain ⟨h1, h2, h3, h4, h5⟩ := hk; simp only [tab, Instr.findNow, Instr.sameNow, if_true, show (k == 1) = false from by simpa using h1, show (k == 2) = false from by simpa using h2, show (k == 3) = false from by simpa using h3, show (k == 4) = false from by simpa using h4, show (k == 5) = false from by simpa using h5])

theorem other_grown {w w' : World} {F G : Nat} {o : Obj} (g : w.grownBy w' (some F)) (h : w.heap[G]? = some o) (hne : G ≠ F) : w'.heap[G]? = some o :=
  (g.block G (Array.getElem?_eq_some_iff.1 h).1 (by simpa using hne)).trans h

set_option maxRecDepth 100000 in
set_option maxHeartbeats 2000000 in
theorem table_any (w : World) :
    Calls Try.prog 87 #[] w fun e w' => ∃ B X Y, e = .returned (.map (some B)) ∧ HasT w' B X Y ∧ Below w.heap.size w w' := by
  have hmm := @run_makeMap Try.prog
  go_enter Try.func87, Try.ntmps87
  have h0 : (w.alloc (.map #[] 0)).heap[w.heap.size]? = some (.map #[] 0) := World.alloc_heap_new _ _
  go_wp2_with (first
    | (have hq_ := b2; clear hq_; refine wpList_put _ rfl _ _ _ rfl w.heap.size _ 4 5 (clo Y) rfl rfl rfl m5_ rfl ?_; intro w7 m5 g5)
    | (have hq_ := m4; clear hq_; go_at_call 90; refine (made_any 8 _).mono ?_; rintro e w6 ⟨Y, rfl, hY, bY, b2⟩; have m5_ := block_below b2 m4)
    | (have hq_ := b1; clear hq_; refine wpList_put _ rfl _ _ _ rfl w.heap.size _ 3 4 (clo X) rfl rfl rfl m4_ rfl ?_; intro w5 m4 g4)
    | (have hq_ := m3; clear hq_; go_at_call 90; refine (made_any 1 _).mono ?_; rintro e w4 ⟨X, rfl, hX, bX, b1⟩; have m4_ := block_below b1 m3)
    | (have hq_ := m2; clear hq_; refine wpList_put _ rfl _ _ _ rfl w.heap.size _ 2 3 (fnv 94) rfl rfl rfl m2 rfl ?_; intro w3 m3 g3)
    | (have hq_ := m1; clear hq_; refine wpList_put _ rfl _ _ _ rfl w.heap.size _ 1 2 (fnv 93) rfl rfl rfl m1 rfl ?_; intro w2 m2 g2)
    | (refine wpList_put _ rfl _ _ _ rfl w.heap.size _ 0 1 (fnv 92) rfl rfl rfl h0 rfl ?_; intro w1 m1 g1)
    | fail)
  go_ret
  have i1 : Below w.heap.size w w1 := below_grownF (below_alloc1 _ _) g1 (Nat.le_refl _)
  have i3 : Below w.heap.size w w3 := below_grownF (below_grownF i1 g2 (Nat.le_refl _)) g3 (Nat.le_refl _)
  have i4 : Below w.heap.size w w4 := below_then i3 b1
  have i5 : Below w.heap.size w w5 := below_grownF i4 g4 (Nat.le_refl _)
  have i6 : Below w.heap.size w w6 := below_then i5 b2
  have l3 : w.heap.size < w3.heap.size := (Array.getElem?_eq_some_iff.1 m3).1
  have l5 : w.heap.size < w5.heap.size := (Array.getElem?_eq_some_iff.1 m4).1
  refine ⟨w.heap.size, X, Y, rfl, ⟨?_, ?_, ?_⟩, below_grownF i6 g5 (Nat.le_refl _)⟩
  · exact m5
  · exact other_grownF g5 (block_below b2 (other_grownF g4 bX (by omega))) (by omega)
  · exact other_grownF g5 bY (by omega)

theorem below_set4 {w0 w : World} {F : Nat} (b : Below w0.heap.size w0 w) (hF : w0.heap.size ≤ F) (a b' c d : Value) : Below w0.heap.size w0 (set4 w F a b' c d) := below_grownF b (set4_grown w F a b' c d) hF

abbrev zeroV : CV := ⟨0, 0, 0, 0⟩

set_option maxRecDepth 100000 in
set_option maxHeartbeats 2000000 in
theorem rest_any (c d : CV) (k : Int) (hd : restV c k = d) (hq : 0 ≤ c.q ∧ c.q ≤ 127) (w : World) :
    Calls Try.prog 95 #[c.v, .int .i64 k] w fun e w' => e = .returned d.v ∧ Below w.heap.size w w' := by
  by_cases hk : k = 6
  · subst hk
    by_cases h1 : c.q = 127
    · obtain rfl : d = newV := by rw [← hd]; simp [restV, h1]
      clear hd
      obtain ⟨t, r, s, q⟩ := c
      dsimp only at h1 hq
      subst h1
      go_enter Try.func95, Try.ntmps95
      go_wp2_with fail
      obtain ⟨w0, hw0⟩ : ∃ w0, (w.alloc (.cells #[.int .i64 t, .int .i64 r, .int .i64 s, .int .i64 128] 25)).alloc (.cells #[.int .i64 0, .int .i64 0, .int .i64 0, .int .i64 0] 25) = w0 := ⟨_, rfl⟩
      have hT0 : Below w.heap.size w w0 := by rw [← hw0]; exact below_two _ _ _
      have hR0 : HasC w0 (w.heap.size + 1) zeroV := by rw [← hw0]; exact blk2_NCn _ _ _
      rw [hw0]
      clear hw0
      refine (new_any w0).mono ?_
      rintro e w1 ⟨rfl, hB1⟩
      have hT1 := below_then hT0 hB1
      have hR1 := block_below hB1 hR0
      obtain ⟨⟨c0, c1, c2, c3⟩, f0, f1, f2, f3⟩ := cells4 hR1
      go_wp2_with fail
      exact bodyPost_ret (v := newV.v) (results_c rfl _ rfl (set4_obj hR1 _ _ _ _)) rfl ⟨rfl, below_set4 hT1 (by omega) _ _ _ _⟩
    · obtain rfl : d = ⟨c.t, c.r, c.s, c.q + 1⟩ := by rw [← hd]; simp [restV, h1]
      clear hd
      have h2 : wrap64 (c.q + 1) = c.q + 1 := by unfold wrap64; omega
      have h3 : (c.q + 1 == 128) = false := by simp; omega
      have h4 : ¬ (c.q + 1 = 128) := by omega
      clear h1
      go_enter Try.func95, Try.ntmps95
      go_wp2_with fail
      exact bodyPost_ret (v := CV.v ⟨c.t, c.r, c.s, c.q + 1⟩) (results_c (c := ⟨c.t, c.r, c.s, c.q + 1⟩) rfl _ rfl (blk2_NCn _ _ _)) rfl ⟨rfl, below_two _ _ _⟩
  · obtain rfl : d = c := by rw [← hd]; simp [restV, hk]
    clear hd
    go_enter Try.func95, Try.ntmps95
    go_wp2_with fail
    exact bodyPost_ret (v := d.v) (results_c rfl _ rfl (blk2_NCn _ _ _)) rfl ⟨rfl, below_two _ _ _⟩

set_option maxRecDepth 100000 in
set_option maxHeartbeats 2000000 in
theorem step_off (c d : CV) (k : Int) (hd : restV c k = d) (hs : c.s = 3) (hq : 0 ≤ c.q ∧ c.q ≤ 127) (B : Nat) (w : World) :
    Calls Try.prog 88 #[.map (some B), c.v, .int .i64 k] w fun e w' => e = .returned d.v ∧ Below w.heap.size w w' := by
  obtain ⟨t, r, s, q⟩ := c
  dsimp only at hs hq
  subst hs
  have Hd := Lib.hid hd
  clear hd
  go_enter Try.func88, Try.ntmps88
  go_wp2_with fail
  obtain ⟨w0, hw0⟩ : ∃ w0, (w.alloc (.cells #[.int .i64 t, .int .i64 r, .int .i64 3, .int .i64 q] 25)).alloc (.cells #[.int .i64 0, .int .i64 0, .int .i64 0, .int .i64 0] 25) = w0 := ⟨_, rfl⟩
  have hT0 : Below w.heap.size w w0 := by rw [← hw0]; exact below_two _ _ _
  have hR0 : HasC w0 (w.heap.size + 1) zeroV := by rw [← hw0]; exact blk2_NCn _ _ _
  rw [hw0]
  clear hw0
  refine (rest_any ⟨t, r, 3, q⟩ d k Hd.out hq w0).mono ?_
  rintro e w1 ⟨rfl, hB1⟩
  have hT1 := below_then hT0 hB1
  have hR1 := block_below hB1 hR0
  obtain ⟨⟨c0, c1, c2, c3⟩, f0, f1, f2, f3⟩ := cells4 hR1
  go_wp2_with fail
  exact bodyPost_ret (v := d.v) (results_c rfl _ rfl (set4_obj hR1 _ _ _ _)) rfl ⟨rfl, below_set4 hT1 (by omega) _ _ _ _⟩

set_option maxRecDepth 100000 in
set_option maxHeartbeats 2000000 in
theorem step_1 (c d : CV) (hd : settleV (sentV c) = d) (hs : c.s ≠ 3) (hb : 0 ≤ c.t ∧ c.t ≤ 255 ∧ 0 ≤ c.r ∧ c.r ≤ 255) (B X Y : Nat) (w : World) (hT : HasT w B X Y) :
    Calls Try.prog 88 #[.map (some B), c.v, .int .i64 1] w fun e w' => e = .returned d.v ∧ Below w.heap.size w w' := by
  have Hd := Lib.hid hd
  clear hd
  have hs1 : (c.s == 3) = false := by simpa using hs
  have hl := look1 (hT.to (below_two w (.cells #[.int .i64 c.t, .int .i64 c.r, .int .i64 c.s, .int .i64 c.q] 25) (.cells #[.int .i64 0, .int .i64 0, .int .i64 0, .int .i64 0] 25)))
  go_enter Try.func88, Try.ntmps88
  go_wp2_with fail
  obtain ⟨w0, hw0⟩ : ∃ w0, (w.alloc (.cells #[.int .i64 c.t, .int .i64 c.r, .int .i64 c.s, .int .i64 c.q] 25)).alloc (.cells #[.int .i64 0, .int .i64 0, .int .i64 0, .int .i64 0] 25) = w0 := ⟨_, rfl⟩
  have hT0 : Below w.heap.size w w0 := by rw [← hw0]; exact below_two _ _ _
  have hC0 : HasC w0 w.heap.size c := by rw [← hw0]; exact blk1 _ _ _
  have hR0 : HasC w0 (w.heap.size + 1) zeroV := by rw [← hw0]; exact blk2_NCn _ _ _
  have hX0 := hT.to hT0
  rw [hw0]
  rw [hw0] at hl
  clear hw0
  obtain ⟨d1, hd1⟩ : ∃ d1, sentV c = d1 := ⟨_, rfl⟩
  have Hd1 := Lib.hid hd1
  clear hd1
  refine (sent_any c d1 Hd1.out (by omega) w0).mono ?_
  rintro e w1 ⟨rfl, hB1⟩
  have hT1 := below_then hT0 hB1
  have hR1 := block_below hB1 hR0
  have hC1 := block_below hB1 hC0
  obtain ⟨⟨c0, c1, c2, c3⟩, f0, f1, f2, f3⟩ := cells4 hC1
  clear hl hs1 hs
  go_wp2_with fail
  obtain ⟨w2, hw2⟩ : ∃ w2, set4 w1 w.heap.size (.int .i64 d1.t) (.int .i64 d1.r) (.int .i64 d1.s) (.int .i64 d1.q) = w2 := ⟨_, rfl⟩
  have hT2 : Below w.heap.size w w2 := by rw [← hw2]; exact below_set4 hT1 (Nat.le_refl _) _ _ _ _
  have hR2 : HasC w2 (w.heap.size + 1) zeroV := by rw [← hw2]; exact other_grownF (set4_grown _ _ _ _ _ _) hR1 (by omega)
  unfold set4 at hw2
  rw [hw2]
  clear hw2 c0 c1 c2 c3 f0 f1 f2 f3
  refine (settle_any d1 d (by rw [← Hd1.out]; exact Hd.out) w2).mono ?_
  rintro e w3 ⟨rfl, hB3⟩
  have hT3 := below_then hT2 hB3
  have hR3 := block_below hB3 hR2
  obtain ⟨⟨c0, c1, c2, c3⟩, f0, f1, f2, f3⟩ := cells4 hR3
  go_wp2_with fail
  exact bodyPost_ret (v := d.v) (results_c rfl _ rfl (set4_obj hR3 _ _ _ _)) rfl ⟨rfl, below_set4 hT3 (by omega) _ _ _ _⟩

set_option maxRecDepth 100000 in
set_option maxHeartbeats 2000000 in
theorem step_2 (c d : CV) (hd : settleV (heardV c) = d) (hs : c.s ≠ 3) (hb : 0 ≤ c.t ∧ c.t ≤ 255 ∧ 0 ≤ c.r ∧ c.r ≤ 255) (B X Y : Nat) (w : World) (hT : HasT w B X Y) :
    Calls Try.prog 88 #[.map (some B), c.v, .int .i64 2] w fun e w' => e = .returned d.v ∧ Below w.heap.size w w' := by
  have Hd := Lib.hid hd
  clear hd
  have hs1 : (c.s == 3) = false := by simpa using hs
  have hl := look2 (hT.to (below_two w (.cells #[.int .i64 c.t, .int .i64 c.r, .int .i64 c.s, .int .i64 c.q] 25) (.cells #[.int .i64 0, .int .i64 0, .int .i64 0, .int .i64 0] 25)))
  go_enter Try.func88, Try.ntmps88
  go_wp2_with fail
  obtain ⟨w0, hw0⟩ : ∃ w0, (w.alloc (.cells #[.int .i64 c.t, .int .i64 c.r, .int .i64 c.s, .int .i64 c.q] 25)).alloc (.cells #[.int .i64 0, .int .i64 0, .int .i64 0, .int .i64 0] 25) = w0 := ⟨_, rfl⟩
  have hT0 : Below w.heap.size w w0 := by rw [← hw0]; exact below_two _ _ _
  have hC0 : HasC w0 w.heap.size c := by rw [← hw0]; exact blk1 _ _ _
  have hR0 : HasC w0 (w.heap.size + 1) zeroV := by rw [← hw0]; exact blk2_NCn _ _ _
  have hX0 := hT.to hT0
  rw [hw0]
  rw [hw0] at hl
  clear hw0
  obtain ⟨d1, hd1⟩ : ∃ d1, heardV c = d1 := ⟨_, rfl⟩
  have Hd1 := Lib.hid hd1
  clear hd1
  refine (heard_any c d1 Hd1.out (by omega) w0).mono ?_
  rintro e w1 ⟨rfl, hB1⟩
  have hT1 := below_then hT0 hB1
  have hR1 := block_below hB1 hR0
  have hC1 := block_below hB1 hC0
  obtain ⟨⟨c0, c1, c2, c3⟩, f0, f1, f2, f3⟩ := cells4 hC1
  clear hl hs1 hs
  go_wp2_with fail
  obtain ⟨w2, hw2⟩ : ∃ w2, set4 w1 w.heap.size (.int .i64 d1.t) (.int .i64 d1.r) (.int .i64 d1.s) (.int .i64 d1.q) = w2 := ⟨_, rfl⟩
  have hT2 : Below w.heap.size w w2 := by rw [← hw2]; exact below_set4 hT1 (Nat.le_refl _) _ _ _ _
  have hR2 : HasC w2 (w.heap.size + 1) zeroV := by rw [← hw2]; exact other_grownF (set4_grown _ _ _ _ _ _) hR1 (by omega)
  unfold set4 at hw2
  rw [hw2]
  clear hw2 c0 c1 c2 c3 f0 f1 f2 f3
  refine (settle_any d1 d (by rw [← Hd1.out]; exact Hd.out) w2).mono ?_
  rintro e w3 ⟨rfl, hB3⟩
  have hT3 := below_then hT2 hB3
  have hR3 := block_below hB3 hR2
  obtain ⟨⟨c0, c1, c2, c3⟩, f0, f1, f2, f3⟩ := cells4 hR3
  go_wp2_with fail
  exact bodyPost_ret (v := d.v) (results_c rfl _ rfl (set4_obj hR3 _ _ _ _)) rfl ⟨rfl, below_set4 hT3 (by omega) _ _ _ _⟩

set_option maxRecDepth 100000 in
set_option maxHeartbeats 2000000 in
theorem step_3 (c d : CV) (hd : settleV (wrongV c) = d) (hs : c.s ≠ 3) (hb : 0 ≤ c.t ∧ c.t ≤ 255 ∧ 0 ≤ c.r ∧ c.r ≤ 255) (B X Y : Nat) (w : World) (hT : HasT w B X Y) :
    Calls Try.prog 88 #[.map (some B), c.v, .int .i64 3] w fun e w' => e = .returned d.v ∧ Below w.heap.size w w' := by
  have Hd := Lib.hid hd
  clear hd
  have hs1 : (c.s == 3) = false := by simpa using hs
  have hl := look3 (hT.to (below_two w (.cells #[.int .i64 c.t, .int .i64 c.r, .int .i64 c.s, .int .i64 c.q] 25) (.cells #[.int .i64 0, .int .i64 0, .int .i64 0, .int .i64 0] 25)))
  go_enter Try.func88, Try.ntmps88
  go_wp2_with fail
  obtain ⟨w0, hw0⟩ : ∃ w0, (w.alloc (.cells #[.int .i64 c.t, .int .i64 c.r, .int .i64 c.s, .int .i64 c.q] 25)).alloc (.cells #[.int .i64 0, .int .i64 0, .int .i64 0, .int .i64 0] 25) = w0 := ⟨_, rfl⟩
  have hT0 : Below w.heap.size w w0 := by rw [← hw0]; exact below_two _ _ _
  have hC0 : HasC w0 w.heap.size c := by rw [← hw0]; exact blk1 _ _ _
  have hR0 : HasC w0 (w.heap.size + 1) zeroV := by rw [← hw0]; exact blk2_NCn _ _ _
  have hX0 := hT.to hT0
  rw [hw0]
  rw [hw0] at hl
  clear hw0
  obtain ⟨d1, hd1⟩ : ∃ d1, wrongV c = d1 := ⟨_, rfl⟩
  have Hd1 := Lib.hid hd1
  clear hd1
  refine (wrong_any c d1 Hd1.out (by omega) w0).mono ?_
  rintro e w1 ⟨rfl, hB1⟩
  have hT1 := below_then hT0 hB1
  have hR1 := block_below hB1 hR0
  have hC1 := block_below hB1 hC0
  obtain ⟨⟨c0, c1, c2, c3⟩, f0, f1, f2, f3⟩ := cells4 hC1
  clear hl hs1 hs
  go_wp2_with fail
  obtain ⟨w2, hw2⟩ : ∃ w2, set4 w1 w.heap.size (.int .i64 d1.t) (.int .i64 d1.r) (.int .i64 d1.s) (.int .i64 d1.q) = w2 := ⟨_, rfl⟩
  have hT2 : Below w.heap.size w w2 := by rw [← hw2]; exact below_set4 hT1 (Nat.le_refl _) _ _ _ _
  have hR2 : HasC w2 (w.heap.size + 1) zeroV := by rw [← hw2]; exact other_grownF (set4_grown _ _ _ _ _ _) hR1 (by omega)
  unfold set4 at hw2
  rw [hw2]
  clear hw2 c0 c1 c2 c3 f0 f1 f2 f3
  refine (settle_any d1 d (by rw [← Hd1.out]; exact Hd.out) w2).mono ?_
  rintro e w3 ⟨rfl, hB3⟩
  have hT3 := below_then hT2 hB3
  have hR3 := block_below hB3 hR2
  obtain ⟨⟨c0, c1, c2, c3⟩, f0, f1, f2, f3⟩ := cells4 hR3
  go_wp2_with fail
  exact bodyPost_ret (v := d.v) (results_c rfl _ rfl (set4_obj hR3 _ _ _ _)) rfl ⟨rfl, below_set4 hT3 (by omega) _ _ _ _⟩

set_option maxRecDepth 100000 in
set_option maxHeartbeats 2000000 in
theorem step_4 (c d : CV) (hd : settleV (longV 1 c) = d) (hs : c.s ≠ 3) (hb : 0 ≤ c.t ∧ c.t ≤ 255 ∧ 0 ≤ c.r ∧ c.r ≤ 255) (B X Y : Nat) (w : World) (hT : HasT w B X Y) :
    Calls Try.prog 88 #[.map (some B), c.v, .int .i64 4] w fun e w' => e = .returned d.v ∧ Below w.heap.size w w' := by
  have Hd := Lib.hid hd
  clear hd
  have hs1 : (c.s == 3) = false := by simpa using hs
  have hl := look4 (hT.to (below_two w (.cells #[.int .i64 c.t, .int .i64 c.r, .int .i64 c.s, .int .i64 c.q] 25) (.cells #[.int .i64 0, .int .i64 0, .int .i64 0, .int .i64 0] 25)))
  go_enter Try.func88, Try.ntmps88
  go_wp2_with fail
  obtain ⟨w0, hw0⟩ : ∃ w0, (w.alloc (.cells #[.int .i64 c.t, .int .i64 c.r, .int .i64 c.s, .int .i64 c.q] 25)).alloc (.cells #[.int .i64 0, .int .i64 0, .int .i64 0, .int .i64 0] 25) = w0 := ⟨_, rfl⟩
  have hT0 : Below w.heap.size w w0 := by rw [← hw0]; exact below_two _ _ _
  have hC0 : HasC w0 w.heap.size c := by rw [← hw0]; exact blk1 _ _ _
  have hR0 : HasC w0 (w.heap.size + 1) zeroV := by rw [← hw0]; exact blk2_NCn _ _ _
  have hX0 := hT.to hT0
  rw [hw0]
  rw [hw0] at hl
  clear hw0
  obtain ⟨d1, hd1⟩ : ∃ d1, longV 1 c = d1 := ⟨_, rfl⟩
  have Hd1 := Lib.hid hd1
  clear hd1
  refine (long_any 1 (by omega) c d1 Hd1.out (by omega) X w0 (by simp [World.cell?, hX0.one])).mono ?_
  rintro e w1 ⟨rfl, hB1⟩
  have hT1 := below_then hT0 hB1
  have hR1 := block_below hB1 hR0
  have hC1 := block_below hB1 hC0
  obtain ⟨⟨c0, c1, c2, c3⟩, f0, f1, f2, f3⟩ := cells4 hC1
  clear hl hs1 hs
  go_wp2_with fail
  obtain ⟨w2, hw2⟩ : ∃ w2, set4 w1 w.heap.size (.int .i64 d1.t) (.int .i64 d1.r) (.int .i64 d1.s) (.int .i64 d1.q) = w2 := ⟨_, rfl⟩
  have hT2 : Below w.heap.size w w2 := by rw [← hw2]; exact below_set4 hT1 (Nat.le_refl _) _ _ _ _
  have hR2 : HasC w2 (w.heap.size + 1) zeroV := by rw [← hw2]; exact other_grownF (set4_grown _ _ _ _ _ _) hR1 (by omega)
  unfold set4 at hw2
  rw [hw2]
  clear hw2 c0 c1 c2 c3 f0 f1 f2 f3
  refine (settle_any d1 d (by rw [← Hd1.out]; exact Hd.out) w2).mono ?_
  rintro e w3 ⟨rfl, hB3⟩
  have hT3 := below_then hT2 hB3
  have hR3 := block_below hB3 hR2
  obtain ⟨⟨c0, c1, c2, c3⟩, f0, f1, f2, f3⟩ := cells4 hR3
  go_wp2_with fail
  exact bodyPost_ret (v := d.v) (results_c rfl _ rfl (set4_obj hR3 _ _ _ _)) rfl ⟨rfl, below_set4 hT3 (by omega) _ _ _ _⟩

set_option maxRecDepth 100000 in
set_option maxHeartbeats 2000000 in
theorem step_5 (c d : CV) (hd : settleV (longV 8 c) = d) (hs : c.s ≠ 3) (hb : 0 ≤ c.t ∧ c.t ≤ 255 ∧ 0 ≤ c.r ∧ c.r ≤ 255) (B X Y : Nat) (w : World) (hT : HasT w B X Y) :
    Calls Try.prog 88 #[.map (some B), c.v, .int .i64 5] w fun e w' => e = .returned d.v ∧ Below w.heap.size w w' := by
  have Hd := Lib.hid hd
  clear hd
  have hs1 : (c.s == 3) = false := by simpa using hs
  have hl := look5 (hT.to (below_two w (.cells #[.int .i64 c.t, .int .i64 c.r, .int .i64 c.s, .int .i64 c.q] 25) (.cells #[.int .i64 0, .int .i64 0, .int .i64 0, .int .i64 0] 25)))
  go_enter Try.func88, Try.ntmps88
  go_wp2_with fail
  obtain ⟨w0, hw0⟩ : ∃ w0, (w.alloc (.cells #[.int .i64 c.t, .int .i64 c.r, .int .i64 c.s, .int .i64 c.q] 25)).alloc (.cells #[.int .i64 0, .int .i64 0, .int .i64 0, .int .i64 0] 25) = w0 := ⟨_, rfl⟩
  have hT0 : Below w.heap.size w w0 := by rw [← hw0]; exact below_two _ _ _
  have hC0 : HasC w0 w.heap.size c := by rw [← hw0]; exact blk1 _ _ _
  have hR0 : HasC w0 (w.heap.size + 1) zeroV := by rw [← hw0]; exact blk2_NCn _ _ _
  have hX0 := hT.to hT0
  rw [hw0]
  rw [hw0] at hl
  clear hw0
  obtain ⟨d1, hd1⟩ : ∃ d1, longV 8 c = d1 := ⟨_, rfl⟩
  have Hd1 := Lib.hid hd1
  clear hd1
  refine (long_any 8 (by omega) c d1 Hd1.out (by omega) Y w0 (by simp [World.cell?, hX0.two])).mono ?_
  rintro e w1 ⟨rfl, hB1⟩
  have hT1 := below_then hT0 hB1
  have hR1 := block_below hB1 hR0
  have hC1 := block_below hB1 hC0
  obtain ⟨⟨c0, c1, c2, c3⟩, f0, f1, f2, f3⟩ := cells4 hC1
  clear hl hs1 hs
  go_wp2_with fail
  obtain ⟨w2, hw2⟩ : ∃ w2, set4 w1 w.heap.size (.int .i64 d1.t) (.int .i64 d1.r) (.int .i64 d1.s) (.int .i64 d1.q) = w2 := ⟨_, rfl⟩
  have hT2 : Below w.heap.size w w2 := by rw [← hw2]; exact below_set4 hT1 (Nat.le_refl _) _ _ _ _
  have hR2 : HasC w2 (w.heap.size + 1) zeroV := by rw [← hw2]; exact other_grownF (set4_grown _ _ _ _ _ _) hR1 (by omega)
  unfold set4 at hw2
  rw [hw2]
  clear hw2 c0 c1 c2 c3 f0 f1 f2 f3
  refine (settle_any d1 d (by rw [← Hd1.out]; exact Hd.out) w2).mono ?_
  rintro e w3 ⟨rfl, hB3⟩
  have hT3 := below_then hT2 hB3
  have hR3 := block_below hB3 hR2
  obtain ⟨⟨c0, c1, c2, c3⟩, f0, f1, f2, f3⟩ := cells4 hR3
  go_wp2_with fail
  exact bodyPost_ret (v := d.v) (results_c rfl _ rfl (set4_obj hR3 _ _ _ _)) rfl ⟨rfl, below_set4 hT3 (by omega) _ _ _ _⟩

set_option maxRecDepth 100000 in
set_option maxHeartbeats 2000000 in
theorem step_0 (c d : CV) (k : Int) (hk : k ≠ 1 ∧ k ≠ 2 ∧ k ≠ 3 ∧ k ≠ 4 ∧ k ≠ 5) (hd : settleV c = d) (hs : c.s ≠ 3) (B X Y : Nat) (w : World) (hT : HasT w B X Y) :
    Calls Try.prog 88 #[.map (some B), c.v, .int .i64 k] w fun e w' => e = .returned d.v ∧ Below w.heap.size w w' := by
  have Hd := Lib.hid hd
  clear hd
  have hs1 : (c.s == 3) = false := by simpa using hs
  have hl := look0 (hT.to (below_two w (.cells #[.int .i64 c.t, .int .i64 c.r, .int .i64 c.s, .int .i64 c.q] 25) (.cells #[.int .i64 0, .int .i64 0, .int .i64 0, .int .i64 0] 25))) hk
  clear hk
  go_enter Try.func88, Try.ntmps88
  go_wp2_with fail
  obtain ⟨w0, hw0⟩ : ∃ w0, (w.alloc (.cells #[.int .i64 c.t, .int .i64 c.r, .int .i64 c.s, .int .i64 c.q] 25)).alloc (.cells #[.int .i64 0, .int .i64 0, .int .i64 0, .int .i64 0] 25) = w0 := ⟨_, rfl⟩
  have hT0 : Below w.heap.size w w0 := by rw [← hw0]; exact below_two _ _ _
  have hR0 : HasC w0 (w.heap.size + 1) zeroV := by rw [← hw0]; exact blk2_NCn _ _ _
  rw [hw0]
  clear hl hw0
  refine (settle_any c d Hd.out w0).mono ?_
  rintro e w3 ⟨rfl, hB3⟩
  have hT3 := below_then hT0 hB3
  have hR3 := block_below hB3 hR0
  obtain ⟨⟨c0, c1, c2, c3⟩, f0, f1, f2, f3⟩ := cells4 hR3
  go_wp2_with fail
  exact bodyPost_ret (v := d.v) (results_c rfl _ rfl (set4_obj hR3 _ _ _ _)) rfl ⟨rfl, below_set4 hT3 (by omega) _ _ _ _⟩

theorem step_any (c d : CV) (k : Int) (hd : stepV c k = d) (hok : OkC c) (B X Y : Nat) (w : World) (hT : HasT w B X Y) :
    Calls Try.prog 88 #[.map (some B), c.v, .int .i64 k] w fun e w' => e = .returned d.v ∧ Below w.heap.size w w' := by
  have hb := ok_box hok
  by_cases hs : c.s = 3
  · exact step_off c d k (by rw [← hd, stepV, if_pos hs]) hs ⟨hb.2.2.2.2.1, hb.2.2.2.2.2⟩ B w
  · have hn := ok_notOff hok hs
    have hn' : 0 ≤ c.t ∧ c.t ≤ 255 ∧ 0 ≤ c.r ∧ c.r ≤ 255 := by omega
    rw [stepV, if_neg hs] at hd
    by_cases h1 : k = 1
    · subst h1; exact step_1 c d (by rw [← hd]; simp [effV]) hs hn' B X Y w hT
    by_cases h2 : k = 2
    · subst h2; exact step_2 c d (by rw [← hd]; simp [effV]) hs hn' B X Y w hT
    by_cases h3 : k = 3
    · subst h3; exact step_3 c d (by rw [← hd]; simp [effV]) hs hn' B X Y w hT
    by_cases h4 : k = 4
    · subst h4; exact step_4 c d (by rw [← hd]; simp [effV]) hs hn' B X Y w hT
    by_cases h5 : k = 5
    · subst h5; exact step_5 c d (by rw [← hd]; simp [effV]) hs hn' B X Y w hT
    exact step_0 c d k ⟨h1, h2, h3, h4, h5⟩ (by rw [← hd]; simp [effV, h1, h2, h3, h4, h5]) hs B X Y w hT

theorem HasT.set {w : World} {B X Y F : Nat} {c : CV} (h : HasT w B X Y) (hc : HasC w F c) (a b c' d : Value) : HasT (set4 w F a b c' d) B X Y := by
  refine ⟨other_grownF (set4_grown _ _ _ _ _ _) h.map ?_, other_grownF (set4_grown _ _ _ _ _ _) h.one ?_, other_grownF (set4_grown _ _ _ _ _ _) h.two ?_⟩
  · rintro rfl; have := h.map; unfold HasC at hc; rw [hc] at this; cases this
  · rintro rfl; have := h.one; unfold HasC at hc; rw [hc] at this; simp at this
  · rintro rfl; have := h.two; unfold HasC at hc; rw [hc] at this; simp at this

theorem stepsV_take {c : CV} {l : List Int} {k : Nat} {x : Int} (hx : l[k]? = some x) : stepsV c (l.take (k + 1)) = stepV (stepsV c (l.take k)) x := by
  rw [take_snoc hx, stepsV_snoc]

set_option maxRecDepth 100000 in
set_option maxHeartbeats 2000000 in
theorem steps_any (c d : CV) (l : List Int) (hd : stepsV c l = d) (hok : OkC c) (n : Nat) (hn : l.length = n) (hm : n ≤ 1000000) (A : Option Addr) (cp : Nat) (w : World) (h : Row .i64 w w.heap.size A l) :
    Calls Try.prog 83 #[c.v, .slice A n cp] w fun e w' => e = .returned d.v ∧ Below w.heap.size w w' := by
  have Hd := Lib.hid hd
  have Hn := Lib.hid hn
  have Hok := Lib.hid hok
  clear hd hn hok
  go_enter Try.func83, Try.ntmps83
  go_wp2_with fail
  obtain ⟨w0, hw0⟩ : ∃ w0, (w.alloc (.cells #[.int .i64 c.t, .int .i64 c.r, .int .i64 c.s, .int .i64 c.q] 25)).alloc (.cells #[.int .i64 0, .int .i64 0, .int .i64 0, .int .i64 0] 25) = w0 := ⟨_, rfl⟩
  have hT0 : Below w.heap.size w w0 := by rw [← hw0]; exact below_two _ _ _
  have hC0 : HasC w0 w.heap.size c := by rw [← hw0]; exact blk1 _ _ _
  have hR0 : HasC w0 (w.heap.size + 1) zeroV := by rw [← hw0]; exact blk2_NCn _ _ _
  rw [hw0]
  clear hw0
  refine (table_any w0).mono ?_
  rintro e w1 ⟨B, X, Y, rfl, hX1, hB1⟩
  have hT1 := below_then hT0 hB1
  have hR1 := block_below hB1 hR0
  have hC1 := block_below hB1 hC0
  go_wp2_with fail
  go_loopw [11] (fun i wr => ∃ (k : Nat) (b : CV), k ≤ n ∧ i = .int .i64 k ∧ Hid (stepsV c (l.take k) = b) ∧ HasC wr w.heap.size b ∧ HasC wr (w.heap.size + 1) zeroV ∧ HasT wr B X Y ∧ Below w.heap.size w wr) (fun i _ => n - (intOf i).toNat)
  case atStart => exact ⟨0, c, Nat.zero_le _, rfl, Lib.hid rfl, hC1, hR1, hX1, hT1⟩
  case round =>
    clear hT0 hC0 hR0 hX1 hB1 hT1 hR1 hC1
    obtain ⟨k, b, hk, rfl, Hb, hC, hR, hX, hB⟩ := hrel
    by_cases hlt : k < n
    · obtain ⟨ad, x, rfl, hx, hc⟩ := (h.below hB).get_ (k := k) (by rw [Hn.out]; exact hlt)
      obtain ⟨b2, hb2⟩ : ∃ b2, stepV b x = b2 := ⟨_, rfl⟩
      have Hs := Lib.hid (show stepsV c (l.take (k + 1)) = b2 from by rw [stepsV_take hx, Hb.out]; exact hb2)
      have Hb2 := Lib.hid hb2
      clear hx hb2
      obtain ⟨⟨c0, c1, c2, c3⟩, f0, f1, f2, f3⟩ := cells4 hC
      go_wp2_with fail
      clear c0 c1 c2 c3 f0 f1 f2 f3
      refine (step_any b b2 x Hb2.out (by rw [← Hb.out]; exact ok_steps _ _ Hok.out) B X Y wr hX).mono ?_
      rintro e w2 ⟨rfl, hB2⟩
      have hC2 := block_below hB2 hC
      have hR2 := block_below hB2 hR
      have hX2 := hX.to hB2
      have hBB := below_then hB hB2
      obtain ⟨⟨c0, c1, c2, c3⟩, f0, f1, f2, f3⟩ := cells4 hC2
      go_wp2_with fail
      go_round
      case measure => simp [intOf]; omega
      exact ⟨k + 1, b2, by omega, by go_num, Hs, set4_obj hC2 _ _ _ _, other_grownF (set4_grown _ _ _ _ _ _) hR2 (by omega), hX2.set hC2 _ _ _ _, below_set4 hBB (Nat.le_refl _) _ _ _ _⟩
    · obtain rfl : k = n := by omega
      have e1 : l.take k = l := by rw [← Hn.out, List.take_length]
      obtain rfl : b = d := by rw [← Hb.out, ← Hd.out, e1]
      clear e1
      obtain ⟨⟨c0, c1, c2, c3⟩, f0, f1, f2, f3⟩ := cells4 hC
      obtain ⟨⟨r0, r1, r2, r3⟩, g0, g1, g2, g3⟩ := cells4 hR
      go_wp2_with fail
      exact bodyPost_ret (v := b.v) (results_c rfl _ rfl (set4_obj hR _ _ _ _)) rfl ⟨rfl, below_set4 hB (by omega) _ _ _ _⟩

set_option maxRecDepth 100000 in
set_option maxHeartbeats 2000000 in
theorem step1_any (c d : CV) (k : Int) (hd : stepV c k = d) (hok : OkC c) (w : World) :
    Calls Try.prog 72 #[c.v, .int .i64 k] w fun e w' => e = .returned d.v ∧ Below w.heap.size w w' := by
  have Hd := Lib.hid hd
  have Hok := Lib.hid hok
  clear hd hok
  go_enter Try.func72, Try.ntmps72
  go_wp2_with fail
  obtain ⟨w0, hw0⟩ : ∃ w0, (w.alloc (.cells #[.int .i64 c.t, .int .i64 c.r, .int .i64 c.s, .int .i64 c.q] 25)).alloc (.cells #[.int .i64 0, .int .i64 0, .int .i64 0, .int .i64 0] 25) = w0 := ⟨_, rfl⟩
  have hT0 : Below w.heap.size w w0 := by rw [← hw0]; exact below_two _ _ _
  have hR0 : HasC w0 (w.heap.size + 1) zeroV := by rw [← hw0]; exact blk2_NCn _ _ _
  have hsz : w.heap.size + 2 = w0.heap.size := by rw [← hw0]; simp
  rw [hw0, hsz]
  clear hw0 hsz
  obtain ⟨w1, hw1⟩ : ∃ w1, w0.alloc (.cells #[.int .i64 k] 3) = w1 := ⟨_, rfl⟩
  have hT1 : Below w.heap.size w w1 := by rw [← hw1]; exact below_then hT0 (below_alloc1 _ _)
  have hR1 : HasC w1 (w.heap.size + 1) zeroV := by rw [← hw1]; exact block_below (below_alloc1 _ _) hR0
  have hL1 : Row .i64 w1 w1.heap.size (some ⟨w0.heap.size, 0, none⟩) [k] := by rw [← hw1]; simpa using Row.lit w0 .i64 [k] 3 rfl
  rw [hw1]
  clear hw1
  refine (steps_any c d [k] (by rw [← Hd.out]; rfl) Hok.out 1 rfl (by omega) _ 1 w1 hL1).mono ?_
  rintro e w2 ⟨rfl, hB2⟩
  have hT2 := below_then hT1 hB2
  have hR2 := block_below hB2 hR1
  obtain ⟨⟨c0, c1, c2, c3⟩, f0, f1, f2, f3⟩ := cells4 hR2
  go_wp2_with fail
  exact bodyPost_ret (v := d.v) (results_c rfl _ rfl (set4_obj hR2 _ _ _ _)) rfl ⟨rfl, below_set4 hT2 (by omega) _ _ _ _⟩

theorem below_three (w : World) (o1 o2 o3 : Obj) : Below w.heap.size w (((w.alloc o1).alloc o2).alloc o3) := below_then (below_two _ _ _) (below_alloc1 _ _)

theorem blk2of3 (w : World) (o1 o2 o3 : Obj) : (((w.alloc o1).alloc o2).alloc o3).heap[w.heap.size + 1]? = some o2 := block_below (below_alloc1 _ _) (blk2_NCn _ _ _)

set_option maxRecDepth 100000 in
set_option maxHeartbeats 2000000 in
theorem refStep_off (c d : CV) (k : Int) (hd : restV c k = d) (hs : c.s = 3) (hq : 0 ≤ c.q ∧ c.q ≤ 127) (w : World) :
    Calls Try.prog 55 #[c.v, .int .i64 k] w fun e w' => e = .returned d.v ∧ Below w.heap.size w w' := by
  obtain ⟨t, r, s, q⟩ := c
  dsimp only at hs hq
  subst hs
  by_cases hk : k = 6
  · subst hk
    by_cases h1 : q = 127
    · obtain rfl : d = newV := by rw [← hd]; simp [restV, h1]
      clear hd
      subst h1
      go_enter Try.func55, Try.ntmps55
      go_wp2_with fail
      obtain ⟨w0, hw0⟩ : ∃ w0, ((w.alloc (.cells #[.int .i64 t, .int .i64 r, .int .i64 3, .int .i64 127] 25)).alloc (.cells #[.int .i64 0, .int .i64 0, .int .i64 0, .int .i64 0] 25)).alloc (.cells #[.int .i64 t, .int .i64 r, .int .i64 3, .int .i64 128] 25) = w0 := ⟨_, rfl⟩
      have hT0 : Below w.heap.size w w0 := by rw [← hw0]; exact below_three _ _ _ _
      have hR0 : HasC w0 (w.heap.size + 1) zeroV := by rw [← hw0]; exact blk2of3 _ _ _ _
      rw [hw0]
      clear hw0
      refine (refNew_any w0).mono ?_
      rintro e w1 ⟨rfl, hB1⟩
      have hT1 := below_then hT0 hB1
      have hR1 := block_below hB1 hR0
      obtain ⟨⟨c0, c1, c2, c3⟩, f0, f1, f2, f3⟩ := cells4 hR1
      go_wp2_with fail
      exact bodyPost_ret (v := newV.v) (results_c rfl _ rfl (set4_obj hR1 _ _ _ _)) rfl ⟨rfl, below_set4 hT1 (by omega) _ _ _ _⟩
    · obtain rfl : d = ⟨t, r, 3, q + 1⟩ := by rw [← hd]; simp [restV, h1]
      clear hd
      have h2 : wrap64 (q + 1) = q + 1 := by unfold wrap64; omega
      have h3 : (q + 1 == 128) = false := by simp; omega
      have h4 : ¬ (q + 1 = 128) := by omega
      clear h1
      go_enter Try.func55, Try.ntmps55
      go_wp2_with fail
      exact bodyPost_ret (v := CV.v ⟨t, r, 3, q + 1⟩) (results_c (c := ⟨t, r, 3, q + 1⟩) rfl _ rfl (blk2of3 _ _ _ _)) rfl ⟨rfl, below_three _ _ _ _⟩
  · obtain rfl : d = ⟨t, r, 3, q⟩ := by rw [← hd]; simp [restV, hk]
    clear hd
    go_enter Try.func55, Try.ntmps55
    go_wp2_with fail
    exact bodyPost_ret (v := CV.v ⟨t, r, 3, q⟩) (results_c (c := ⟨t, r, 3, q⟩) rfl _ rfl (blk2of3 _ _ _ _)) rfl ⟨rfl, below_three _ _ _ _⟩

set_option maxRecDepth 100000 in
set_option maxHeartbeats 2000000 in
theorem refStep_1 (c d : CV) (hd : settleV (sentV c) = d) (hs : c.s ≠ 3) (hb : 0 ≤ c.t ∧ c.t ≤ 255 ∧ 0 ≤ c.r ∧ c.r ≤ 255) (w : World) :
    Calls Try.prog 55 #[c.v, .int .i64 1] w fun e w' => e = .returned d.v ∧ Below w.heap.size w w' := by
  have hs1 : (c.s == 3) = false := by simpa using hs
  have h7 : wrap64 (c.t - 1) = c.t - 1 := by unfold wrap64; omega
  obtain ⟨m, hm⟩ : ∃ m, max (c.t - 1) 0 = m := ⟨_, rfl⟩
  have Hd := Lib.hid hd
  clear hd hb hs
  by_cases h1 : 255 < m
  · obtain rfl : d = ⟨256, 0, 3, 0⟩ := by rw [← Hd.out]; simp [settleV, sentV, heardV, wrongV, longV, h1, *]
    clear Hd
    go_enter Try.func55, Try.ntmps55
    go_wp2_with fail
    exact bodyPost_ret (v := CV.v ⟨256, 0, 3, 0⟩) (results_c (c := ⟨256, 0, 3, 0⟩) rfl _ rfl (blk2of3 _ _ _ _)) rfl ⟨rfl, below_three _ _ _ _⟩
  by_cases h2 : 127 < m
  · obtain rfl : d = ⟨m, c.r, 2, c.q⟩ := by rw [← Hd.out]; simp [settleV, sentV, heardV, wrongV, longV, h1, h2, *]
    clear Hd
    go_enter Try.func55, Try.ntmps55
    go_wp2_with fail
    exact bodyPost_ret (v := CV.v ⟨m, c.r, 2, c.q⟩) (results_c (c := ⟨m, c.r, 2, c.q⟩) rfl _ rfl (blk2of3 _ _ _ _)) rfl ⟨rfl, below_three _ _ _ _⟩
  by_cases h3 : 127 < c.r
  · obtain rfl : d = ⟨m, c.r, 2, c.q⟩ := by rw [← Hd.out]; simp [settleV, sentV, heardV, wrongV, longV, h1, h2, h3, *]
    clear Hd
    go_enter Try.func55, Try.ntmps55
    go_wp2_with fail
    exact bodyPost_ret (v := CV.v ⟨m, c.r, 2, c.q⟩) (results_c (c := ⟨m, c.r, 2, c.q⟩) rfl _ rfl (blk2of3 _ _ _ _)) rfl ⟨rfl, below_three _ _ _ _⟩
  obtain rfl : d = ⟨m, c.r, 1, c.q⟩ := by rw [← Hd.out]; simp [settleV, sentV, heardV, wrongV, longV, h1, h2, h3, *]
  clear Hd
  go_enter Try.func55, Try.ntmps55
  go_wp2_with fail
  exact bodyPost_ret (v := CV.v ⟨m, c.r, 1, c.q⟩) (results_c (c := ⟨m, c.r, 1, c.q⟩) rfl _ rfl (blk2of3 _ _ _ _)) rfl ⟨rfl, below_three _ _ _ _⟩

set_option maxRecDepth 100000 in
set_option maxHeartbeats 2000000 in
theorem refStep_2a (c d : CV) (hr : 127 < c.r) (hd : settleV (heardV c) = d) (hs : c.s ≠ 3) (hb : 0 ≤ c.t ∧ c.t ≤ 255 ∧ 0 ≤ c.r ∧ c.r ≤ 255) (w : World) :
    Calls Try.prog 55 #[c.v, .int .i64 2] w fun e w' => e = .returned d.v ∧ Below w.heap.size w w' := by
  have hs1 : (c.s == 3) = false := by simpa using hs
  have h7 : wrap64 (c.r - 1) = c.r - 1 := by unfold wrap64; omega
  obtain ⟨m, hm⟩ : ∃ m, max (c.r - 1) 0 = m := ⟨_, rfl⟩
  have Hd := Lib.hid hd
  clear hd hb hs
  by_cases h1 : 255 < c.t
  · obtain rfl : d = ⟨256, 0, 3, 0⟩ := by rw [← Hd.out]; simp [settleV, sentV, heardV, wrongV, longV, h1, *]
    clear Hd
    go_enter Try.func55, Try.ntmps55
    go_wp2_with fail
    exact bodyPost_ret (v := CV.v ⟨256, 0, 3, 0⟩) (results_c (c := ⟨256, 0, 3, 0⟩) rfl _ rfl (blk2of3 _ _ _ _)) rfl ⟨rfl, below_three _ _ _ _⟩
  by_cases h2 : 127 < c.t
  · obtain rfl : d = ⟨c.t, (127 : Int), 2, c.q⟩ := by rw [← Hd.out]; simp [settleV, sentV, heardV, wrongV, longV, h1, h2, *]
    clear Hd
    go_enter Try.func55, Try.ntmps55
    go_wp2_with fail
    exact bodyPost_ret (v := CV.v ⟨c.t, (127 : Int), 2, c.q⟩) (results_c (c := ⟨c.t, (127 : Int), 2, c.q⟩) rfl _ rfl (blk2of3 _ _ _ _)) rfl ⟨rfl, below_three _ _ _ _⟩
  obtain rfl : d = ⟨c.t, (127 : Int), 1, c.q⟩ := by rw [← Hd.out]; simp [settleV, sentV, heardV, wrongV, longV, h1, h2, *]
  clear Hd
  go_enter Try.func55, Try.ntmps55
  go_wp2_with fail
  exact bodyPost_ret (v := CV.v ⟨c.t, (127 : Int), 1, c.q⟩) (results_c (c := ⟨c.t, (127 : Int), 1, c.q⟩) rfl _ rfl (blk2of3 _ _ _ _)) rfl ⟨rfl, below_three _ _ _ _⟩

set_option maxRecDepth 100000 in
set_option maxHeartbeats 2000000 in
theorem refStep_2b (c d : CV) (hr : ¬ 127 < c.r) (hd : settleV (heardV c) = d) (hs : c.s ≠ 3) (hb : 0 ≤ c.t ∧ c.t ≤ 255 ∧ 0 ≤ c.r ∧ c.r ≤ 255) (w : World) :
    Calls Try.prog 55 #[c.v, .int .i64 2] w fun e w' => e = .returned d.v ∧ Below w.heap.size w w' := by
  have hs1 : (c.s == 3) = false := by simpa using hs
  have h7 : wrap64 (c.r - 1) = c.r - 1 := by unfold wrap64; omega
  obtain ⟨m, hm⟩ : ∃ m, max (c.r - 1) 0 = m := ⟨_, rfl⟩
  have Hd := Lib.hid hd
  clear hd hb hs
  by_cases h1 : 255 < c.t
  · obtain rfl : d = ⟨256, 0, 3, 0⟩ := by rw [← Hd.out]; simp [settleV, sentV, heardV, wrongV, longV, h1, *]
    clear Hd
    go_enter Try.func55, Try.ntmps55
    go_wp2_with fail
    exact bodyPost_ret (v := CV.v ⟨256, 0, 3, 0⟩) (results_c (c := ⟨256, 0, 3, 0⟩) rfl _ rfl (blk2of3 _ _ _ _)) rfl ⟨rfl, below_three _ _ _ _⟩
  by_cases h2 : 127 < c.t
  · obtain rfl : d = ⟨c.t, m, 2, c.q⟩ := by rw [← Hd.out]; simp [settleV, sentV, heardV, wrongV, longV, h1, h2, *]
    clear Hd
    go_enter Try.func55, Try.ntmps55
    go_wp2_with fail
    exact bodyPost_ret (v := CV.v ⟨c.t, m, 2, c.q⟩) (results_c (c := ⟨c.t, m, 2, c.q⟩) rfl _ rfl (blk2of3 _ _ _ _)) rfl ⟨rfl, below_three _ _ _ _⟩
  by_cases h3 : 127 < m
  · exfalso; omega
  obtain rfl : d = ⟨c.t, m, 1, c.q⟩ := by rw [← Hd.out]; simp [settleV, sentV, heardV, wrongV, longV, h1, h2, h3, *]
  clear Hd
  go_enter Try.func55, Try.ntmps55
  go_wp2_with fail
  exact bodyPost_ret (v := CV.v ⟨c.t, m, 1, c.q⟩) (results_c (c := ⟨c.t, m, 1, c.q⟩) rfl _ rfl (blk2of3 _ _ _ _)) rfl ⟨rfl, below_three _ _ _ _⟩

set_option maxRecDepth 100000 in
set_option maxHeartbeats 2000000 in
theorem refStep_3 (c d : CV) (hd : settleV (wrongV c) = d) (hs : c.s ≠ 3) (hb : 0 ≤ c.t ∧ c.t ≤ 255 ∧ 0 ≤ c.r ∧ c.r ≤ 255) (w : World) :
    Calls Try.prog 55 #[c.v, .int .i64 3] w fun e w' => e = .returned d.v ∧ Below w.heap.size w w' := by
  have hs1 : (c.s == 3) = false := by simpa using hs
  have h7 : wrap64 (c.t + 8) = c.t + 8 := by unfold wrap64; omega
  have Hd := Lib.hid hd
  clear hd hb hs
  by_cases h1 : 255 < (c.t + 8)
  · obtain rfl : d = ⟨256, 0, 3, 0⟩ := by rw [← Hd.out]; simp [settleV, sentV, heardV, wrongV, longV, h1, *]
    clear Hd
    go_enter Try.func55, Try.ntmps55
    go_wp2_with fail
    exact bodyPost_ret (v := CV.v ⟨256, 0, 3, 0⟩) (results_c (c := ⟨256, 0, 3, 0⟩) rfl _ rfl (blk2of3 _ _ _ _)) rfl ⟨rfl, below_three _ _ _ _⟩
  by_cases h2 : 127 < (c.t + 8)
  · obtain rfl : d = ⟨(c.t + 8), c.r, 2, c.q⟩ := by rw [← Hd.out]; simp [settleV, sentV, heardV, wrongV, longV, h1, h2, *]
    clear Hd
    go_enter Try.func55, Try.ntmps55
    go_wp2_with fail
    exact bodyPost_ret (v := CV.v ⟨(c.t + 8), c.r, 2, c.q⟩) (results_c (c := ⟨(c.t + 8), c.r, 2, c.q⟩) rfl _ rfl (blk2of3 _ _ _ _)) rfl ⟨rfl, below_three _ _ _ _⟩
  by_cases h3 : 127 < c.r
  · obtain rfl : d = ⟨(c.t + 8), c.r, 2, c.q⟩ := by rw [← Hd.out]; simp [settleV, sentV, heardV, wrongV, longV, h1, h2, h3, *]
    clear Hd
    go_enter Try.func55, Try.ntmps55
    go_wp2_with fail
    exact bodyPost_ret (v := CV.v ⟨(c.t + 8), c.r, 2, c.q⟩) (results_c (c := ⟨(c.t + 8), c.r, 2, c.q⟩) rfl _ rfl (blk2of3 _ _ _ _)) rfl ⟨rfl, below_three _ _ _ _⟩
  obtain rfl : d = ⟨(c.t + 8), c.r, 1, c.q⟩ := by rw [← Hd.out]; simp [settleV, sentV, heardV, wrongV, longV, h1, h2, h3, *]
  clear Hd
  go_enter Try.func55, Try.ntmps55
  go_wp2_with fail
  exact bodyPost_ret (v := CV.v ⟨(c.t + 8), c.r, 1, c.q⟩) (results_c (c := ⟨(c.t + 8), c.r, 1, c.q⟩) rfl _ rfl (blk2of3 _ _ _ _)) rfl ⟨rfl, below_three _ _ _ _⟩

set_option maxRecDepth 100000 in
set_option maxHeartbeats 2000000 in
theorem refStep_4 (c d : CV) (hd : settleV (longV 1 c) = d) (hs : c.s ≠ 3) (hb : 0 ≤ c.t ∧ c.t ≤ 255 ∧ 0 ≤ c.r ∧ c.r ≤ 255) (w : World) :
    Calls Try.prog 55 #[c.v, .int .i64 4] w fun e w' => e = .returned d.v ∧ Below w.heap.size w w' := by
  have hs1 : (c.s == 3) = false := by simpa using hs
  have h7 : wrap64 (c.r + 1) = c.r + 1 := by unfold wrap64; omega
  obtain ⟨m, hm⟩ : ∃ m, min (c.r + 1) 255 = m := ⟨_, rfl⟩
  have Hd := Lib.hid hd
  clear hd hb hs
  by_cases h1 : 255 < c.t
  · obtain rfl : d = ⟨256, 0, 3, 0⟩ := by rw [← Hd.out]; simp [settleV, sentV, heardV, wrongV, longV, h1, *]
    clear Hd
    go_enter Try.func55, Try.ntmps55
    go_wp2_with fail
    exact bodyPost_ret (v := CV.v ⟨256, 0, 3, 0⟩) (results_c (c := ⟨256, 0, 3, 0⟩) rfl _ rfl (blk2of3 _ _ _ _)) rfl ⟨rfl, below_three _ _ _ _⟩
  by_cases h2 : 127 < c.t
  · obtain rfl : d = ⟨c.t, m, 2, c.q⟩ := by rw [← Hd.out]; simp [settleV, sentV, heardV, wrongV, longV, h1, h2, *]
    clear Hd
    go_enter Try.func55, Try.ntmps55
    go_wp2_with fail
    exact bodyPost_ret (v := CV.v ⟨c.t, m, 2, c.q⟩) (results_c (c := ⟨c.t, m, 2, c.q⟩) rfl _ rfl (blk2of3 _ _ _ _)) rfl ⟨rfl, below_three _ _ _ _⟩
  by_cases h3 : 127 < m
  · obtain rfl : d = ⟨c.t, m, 2, c.q⟩ := by rw [← Hd.out]; simp [settleV, sentV, heardV, wrongV, longV, h1, h2, h3, *]
    clear Hd
    go_enter Try.func55, Try.ntmps55
    go_wp2_with fail
    exact bodyPost_ret (v := CV.v ⟨c.t, m, 2, c.q⟩) (results_c (c := ⟨c.t, m, 2, c.q⟩) rfl _ rfl (blk2of3 _ _ _ _)) rfl ⟨rfl, below_three _ _ _ _⟩
  obtain rfl : d = ⟨c.t, m, 1, c.q⟩ := by rw [← Hd.out]; simp [settleV, sentV, heardV, wrongV, longV, h1, h2, h3, *]
  clear Hd
  go_enter Try.func55, Try.ntmps55
  go_wp2_with fail
  exact bodyPost_ret (v := CV.v ⟨c.t, m, 1, c.q⟩) (results_c (c := ⟨c.t, m, 1, c.q⟩) rfl _ rfl (blk2of3 _ _ _ _)) rfl ⟨rfl, below_three _ _ _ _⟩

set_option maxRecDepth 100000 in
set_option maxHeartbeats 2000000 in
theorem refStep_5 (c d : CV) (hd : settleV (longV 8 c) = d) (hs : c.s ≠ 3) (hb : 0 ≤ c.t ∧ c.t ≤ 255 ∧ 0 ≤ c.r ∧ c.r ≤ 255) (w : World) :
    Calls Try.prog 55 #[c.v, .int .i64 5] w fun e w' => e = .returned d.v ∧ Below w.heap.size w w' := by
  have hs1 : (c.s == 3) = false := by simpa using hs
  have h7 : wrap64 (c.r + 8) = c.r + 8 := by unfold wrap64; omega
  obtain ⟨m, hm⟩ : ∃ m, min (c.r + 8) 255 = m := ⟨_, rfl⟩
  have Hd := Lib.hid hd
  clear hd hb hs
  by_cases h1 : 255 < c.t
  · obtain rfl : d = ⟨256, 0, 3, 0⟩ := by rw [← Hd.out]; simp [settleV, sentV, heardV, wrongV, longV, h1, *]
    clear Hd
    go_enter Try.func55, Try.ntmps55
    go_wp2_with fail
    exact bodyPost_ret (v := CV.v ⟨256, 0, 3, 0⟩) (results_c (c := ⟨256, 0, 3, 0⟩) rfl _ rfl (blk2of3 _ _ _ _)) rfl ⟨rfl, below_three _ _ _ _⟩
  by_cases h2 : 127 < c.t
  · obtain rfl : d = ⟨c.t, m, 2, c.q⟩ := by rw [← Hd.out]; simp [settleV, sentV, heardV, wrongV, longV, h1, h2, *]
    clear Hd
    go_enter Try.func55, Try.ntmps55
    go_wp2_with fail
    exact bodyPost_ret (v := CV.v ⟨c.t, m, 2, c.q⟩) (results_c (c := ⟨c.t, m, 2, c.q⟩) rfl _ rfl (blk2of3 _ _ _ _)) rfl ⟨rfl, below_three _ _ _ _⟩
  by_cases h3 : 127 < m
  · obtain rfl : d = ⟨c.t, m, 2, c.q⟩ := by rw [← Hd.out]; simp [settleV, sentV, heardV, wrongV, longV, h1, h2, h3, *]
    clear Hd
    go_enter Try.func55, Try.ntmps55
    go_wp2_with fail
    exact bodyPost_ret (v := CV.v ⟨c.t, m, 2, c.q⟩) (results_c (c := ⟨c.t, m, 2, c.q⟩) rfl _ rfl (blk2of3 _ _ _ _)) rfl ⟨rfl, below_three _ _ _ _⟩
  obtain rfl : d = ⟨c.t, m, 1, c.q⟩ := by rw [← Hd.out]; simp [settleV, sentV, heardV, wrongV, longV, h1, h2, h3, *]
  clear Hd
  go_enter Try.func55, Try.ntmps55
  go_wp2_with fail
  exact bodyPost_ret (v := CV.v ⟨c.t, m, 1, c.q⟩) (results_c (c := ⟨c.t, m, 1, c.q⟩) rfl _ rfl (blk2of3 _ _ _ _)) rfl ⟨rfl, below_three _ _ _ _⟩

set_option maxRecDepth 100000 in
set_option maxHeartbeats 2000000 in
theorem refStep_0 (c d : CV) (k : Int) (hk : k ≠ 1 ∧ k ≠ 2 ∧ k ≠ 3 ∧ k ≠ 4 ∧ k ≠ 5) (hd : settleV (c) = d) (hs : c.s ≠ 3) (hb : 0 ≤ c.t ∧ c.t ≤ 255 ∧ 0 ≤ c.r ∧ c.r ≤ 255) (w : World) :
    Calls Try.prog 55 #[c.v, .int .i64 k] w fun e w' => e = .returned d.v ∧ Below w.heap.size w w' := by
  have hs1 : (c.s == 3) = false := by simpa using hs
  obtain ⟨k1, k2, k3, k4, k5⟩ := hk
  have Hd := Lib.hid hd
  clear hd hb hs
  by_cases h1 : 255 < c.t
  · obtain rfl : d = ⟨256, 0, 3, 0⟩ := by rw [← Hd.out]; simp [settleV, sentV, heardV, wrongV, longV, h1, *]
    clear Hd
    go_enter Try.func55, Try.ntmps55
    go_wp2_with fail
    exact bodyPost_ret (v := CV.v ⟨256, 0, 3, 0⟩) (results_c (c := ⟨256, 0, 3, 0⟩) rfl _ rfl (blk2of3 _ _ _ _)) rfl ⟨rfl, below_three _ _ _ _⟩
  by_cases h2 : 127 < c.t
  · obtain rfl : d = ⟨c.t, c.r, 2, c.q⟩ := by rw [← Hd.out]; simp [settleV, sentV, heardV, wrongV, longV, h1, h2, *]
    clear Hd
    go_enter Try.func55, Try.ntmps55
    go_wp2_with fail
    exact bodyPost_ret (v := CV.v ⟨c.t, c.r, 2, c.q⟩) (results_c (c := ⟨c.t, c.r, 2, c.q⟩) rfl _ rfl (blk2of3 _ _ _ _)) rfl ⟨rfl, below_three _ _ _ _⟩
  by_cases h3 : 127 < c.r
  · obtain rfl : d = ⟨c.t, c.r, 2, c.q⟩ := by rw [← Hd.out]; simp [settleV, sentV, heardV, wrongV, longV, h1, h2, h3, *]
    clear Hd
    go_enter Try.func55, Try.ntmps55
    go_wp2_with fail
    exact bodyPost_ret (v := CV.v ⟨c.t, c.r, 2, c.q⟩) (results_c (c := ⟨c.t, c.r, 2, c.q⟩) rfl _ rfl (blk2of3 _ _ _ _)) rfl ⟨rfl, below_three _ _ _ _⟩
  obtain rfl : d = ⟨c.t, c.r, 1, c.q⟩ := by rw [← Hd.out]; simp [settleV, sentV, heardV, wrongV, longV, h1, h2, h3, *]
  clear Hd
  go_enter Try.func55, Try.ntmps55
  go_wp2_with fail
  exact bodyPost_ret (v := CV.v ⟨c.t, c.r, 1, c.q⟩) (results_c (c := ⟨c.t, c.r, 1, c.q⟩) rfl _ rfl (blk2of3 _ _ _ _)) rfl ⟨rfl, below_three _ _ _ _⟩

theorem refStep_any (c d : CV) (k : Int) (hd : stepV c k = d) (hok : OkC c) (w : World) :
    Calls Try.prog 55 #[c.v, .int .i64 k] w fun e w' => e = .returned d.v ∧ Below w.heap.size w w' := by
  have hb := ok_box hok
  by_cases hs : c.s = 3
  · exact refStep_off c d k (by rw [← hd, stepV, if_pos hs]) hs ⟨hb.2.2.2.2.1, hb.2.2.2.2.2⟩ w
  · have hn := ok_notOff hok hs
    have hn' : 0 ≤ c.t ∧ c.t ≤ 255 ∧ 0 ≤ c.r ∧ c.r ≤ 255 := by omega
    rw [stepV, if_neg hs] at hd
    by_cases h1 : k = 1
    · subst h1; exact refStep_1 c d (by rw [← hd]; simp [effV]) hs hn' w
    by_cases h2 : k = 2
    · subst h2
      by_cases hr : 127 < c.r
      · exact refStep_2a c d hr (by rw [← hd]; simp [effV]) hs hn' w
      · exact refStep_2b c d hr (by rw [← hd]; simp [effV]) hs hn' w
    by_cases h3 : k = 3
    · subst h3; exact refStep_3 c d (by rw [← hd]; simp [effV]) hs hn' w
    by_cases h4 : k = 4
    · subst h4; exact refStep_4 c d (by rw [← hd]; simp [effV]) hs hn' w
    by_cases h5 : k = 5
    · subst h5; exact refStep_5 c d (by rw [← hd]; simp [effV]) hs hn' w
    exact refStep_0 c d k ⟨h1, h2, h3, h4, h5⟩ (by rw [← hd]; simp [effV, h1, h2, h3, h4, h5]) hs hn' w

theorem within_q (n m : Int) (b : Bool) (hb : decide (0 ≤ n ∧ n ≤ m) = b) (w : World) :
    Calls Try.prog 65 #[.int .i64 n, .int .i64 m] w fun e w' => e = .returned (.bool b) ∧ w' = w := by
  subst hb; exact within_any n m w

set_option maxRecDepth 100000 in
set_option maxHeartbeats 2000000 in
theorem right_1a (t r s q : Int) (b : Bool) (hs : s = 1) (h1 : decide (0 ≤ t ∧ t ≤ 127) = false) (hb : b = false) (w : World) :
    Calls Try.prog 44 #[CV.v ⟨t, r, s, q⟩] w fun e w' => e = .returned (.bool b) ∧ Below w.heap.size w w' := by
  subst hs
  have H1 := Lib.hid h1
  clear h1
  subst hb
  go_enter Try.func44, Try.ntmps44
  go_wp2_with fail
  refine (within_q t 127 false H1.out _).mono ?_
  rintro e w_ ⟨rfl, rfl⟩
  go_wp2_with fail
  go_ret
  exact ⟨ret_bool rfl, below_alloc1 _ _⟩

set_option maxRecDepth 100000 in
set_option maxHeartbeats 2000000 in
theorem right_1b (t r s q : Int) (b : Bool) (hs : s = 1) (h1 : decide (0 ≤ t ∧ t ≤ 127) = true) (h2 : decide (0 ≤ r ∧ r ≤ 127) = false) (hb : b = false) (w : World) :
    Calls Try.prog 44 #[CV.v ⟨t, r, s, q⟩] w fun e w' => e = .returned (.bool b) ∧ Below w.heap.size w w' := by
  subst hs
  have H1 := Lib.hid h1
  have H2 := Lib.hid h2
  clear h1 h2
  subst hb
  go_enter Try.func44, Try.ntmps44
  go_wp2_with fail
  refine (within_q t 127 true H1.out _).mono ?_
  rintro e w_ ⟨rfl, rfl⟩
  go_wp2_with fail
  refine (within_q r 127 false H2.out _).mono ?_
  rintro e w_ ⟨rfl, rfl⟩
  go_wp2_with fail
  go_ret
  exact ⟨ret_bool rfl, below_alloc1 _ _⟩

set_option maxRecDepth 100000 in
set_option maxHeartbeats 2000000 in
theorem right_1c (t r s q : Int) (b : Bool) (hs : s = 1) (h1 : decide (0 ≤ t ∧ t ≤ 127) = true) (h2 : decide (0 ≤ r ∧ r ≤ 127) = true) (hb : b = (q == 0)) (w : World) :
    Calls Try.prog 44 #[CV.v ⟨t, r, s, q⟩] w fun e w' => e = .returned (.bool b) ∧ Below w.heap.size w w' := by
  subst hs
  have H1 := Lib.hid h1
  have H2 := Lib.hid h2
  have Hb := Lib.hid hb
  clear h1 h2 hb
  go_enter Try.func44, Try.ntmps44
  go_wp2_with fail
  refine (within_q t 127 true H1.out _).mono ?_
  rintro e w_ ⟨rfl, rfl⟩
  go_wp2_with fail
  refine (within_q r 127 true H2.out _).mono ?_
  rintro e w_ ⟨rfl, rfl⟩
  go_wp2_with fail
  go_ret
  exact ⟨ret_bool (by rw [Hb.out]), below_alloc1 _ _⟩

set_option maxRecDepth 100000 in
set_option maxHeartbeats 2000000 in
theorem right_2a (t r s q : Int) (b : Bool) (hs : s = 2) (h1 : decide (0 ≤ t ∧ t ≤ 255) = false) (hb : b = false) (w : World) :
    Calls Try.prog 44 #[CV.v ⟨t, r, s, q⟩] w fun e w' => e = .returned (.bool b) ∧ Below w.heap.size w w' := by
  subst hs
  have H1 := Lib.hid h1
  clear h1
  subst hb
  go_enter Try.func44, Try.ntmps44
  go_wp2_with fail
  refine (within_q t 255 false H1.out _).mono ?_
  rintro e w_ ⟨rfl, rfl⟩
  go_wp2_with fail
  go_ret
  exact ⟨ret_bool rfl, below_alloc1 _ _⟩

set_option maxRecDepth 100000 in
set_option maxHeartbeats 2000000 in
theorem right_2b (t r s q : Int) (b : Bool) (hs : s = 2) (h1 : decide (0 ≤ t ∧ t ≤ 255) = true) (h2 : decide (0 ≤ r ∧ r ≤ 255) = false) (hb : b = false) (w : World) :
    Calls Try.prog 44 #[CV.v ⟨t, r, s, q⟩] w fun e w' => e = .returned (.bool b) ∧ Below w.heap.size w w' := by
  subst hs
  have H1 := Lib.hid h1
  have H2 := Lib.hid h2
  clear h1 h2
  subst hb
  go_enter Try.func44, Try.ntmps44
  go_wp2_with fail
  refine (within_q t 255 true H1.out _).mono ?_
  rintro e w_ ⟨rfl, rfl⟩
  go_wp2_with fail
  refine (within_q r 255 false H2.out _).mono ?_
  rintro e w_ ⟨rfl, rfl⟩
  go_wp2_with fail
  go_ret
  exact ⟨ret_bool rfl, below_alloc1 _ _⟩

set_option maxRecDepth 100000 in
set_option maxHeartbeats 2000000 in
theorem right_2c (t r s q : Int) (b : Bool) (hs : s = 2) (h1 : decide (0 ≤ t ∧ t ≤ 255) = true) (h2 : decide (0 ≤ r ∧ r ≤ 255) = true) (m : Int) (hm : max t r = m) (h3 : ¬ 127 < m) (hb : b = false) (w : World) :
    Calls Try.prog 44 #[CV.v ⟨t, r, s, q⟩] w fun e w' => e = .returned (.bool b) ∧ Below w.heap.size w w' := by
  subst hs
  have H1 := Lib.hid h1
  have H2 := Lib.hid h2
  clear h1 h2
  subst hb
  go_enter Try.func44, Try.ntmps44
  go_wp2_with fail
  refine (within_q t 255 true H1.out _).mono ?_
  rintro e w_ ⟨rfl, rfl⟩
  go_wp2_with fail
  refine (within_q r 255 true H2.out _).mono ?_
  rintro e w_ ⟨rfl, rfl⟩
  go_wp2_with fail
  go_ret
  exact ⟨ret_bool rfl, below_alloc1 _ _⟩

set_option maxRecDepth 100000 in
set_option maxHeartbeats 2000000 in
theorem right_2d (t r s q : Int) (b : Bool) (hs : s = 2) (h1 : decide (0 ≤ t ∧ t ≤ 255) = true) (h2 : decide (0 ≤ r ∧ r ≤ 255) = true) (m : Int) (hm : max t r = m) (h3 : 127 < m) (hb : b = (q == 0)) (w : World) :
    Calls Try.prog 44 #[CV.v ⟨t, r, s, q⟩] w fun e w' => e = .returned (.bool b) ∧ Below w.heap.size w w' := by
  subst hs
  have H1 := Lib.hid h1
  have H2 := Lib.hid h2
  have Hb := Lib.hid hb
  clear h1 h2 hb
  go_enter Try.func44, Try.ntmps44
  go_wp2_with fail
  refine (within_q t 255 true H1.out _).mono ?_
  rintro e w_ ⟨rfl, rfl⟩
  go_wp2_with fail
  refine (within_q r 255 true H2.out _).mono ?_
  rintro e w_ ⟨rfl, rfl⟩
  go_wp2_with fail
  go_ret
  exact ⟨ret_bool (by rw [Hb.out]), below_alloc1 _ _⟩

set_option maxRecDepth 100000 in
set_option maxHeartbeats 2000000 in
theorem right_3a (t r s q : Int) (b : Bool) (hs : s = 3) (h1 : ¬ t = 256) (hb : b = false) (w : World) :
    Calls Try.prog 44 #[CV.v ⟨t, r, s, q⟩] w fun e w' => e = .returned (.bool b) ∧ Below w.heap.size w w' := by
  subst hs
  have g1 : (t == 256) = false := by simpa using h1
  subst hb
  go_enter Try.func44, Try.ntmps44
  go_wp2_with fail
  go_ret
  exact ⟨ret_bool rfl, below_alloc1 _ _⟩

set_option maxRecDepth 100000 in
set_option maxHeartbeats 2000000 in
theorem right_3b (t r s q : Int) (b : Bool) (hs : s = 3) (h1 : t = 256) (h2 : ¬ r = 0) (hb : b = false) (w : World) :
    Calls Try.prog 44 #[CV.v ⟨t, r, s, q⟩] w fun e w' => e = .returned (.bool b) ∧ Below w.heap.size w w' := by
  subst hs h1
  have g2 : (r == 0) = false := by simpa using h2
  subst hb
  go_enter Try.func44, Try.ntmps44
  go_wp2_with fail
  go_ret
  exact ⟨ret_bool rfl, below_alloc1 _ _⟩

set_option maxRecDepth 100000 in
set_option maxHeartbeats 2000000 in
theorem right_3c (t r s q : Int) (b : Bool) (hs : s = 3) (h1 : t = 256) (h2 : r = 0) (hb : decide (0 ≤ q ∧ q ≤ 127) = b) (w : World) :
    Calls Try.prog 44 #[CV.v ⟨t, r, s, q⟩] w fun e w' => e = .returned (.bool b) ∧ Below w.heap.size w w' := by
  subst hs h1 h2
  have Hb := Lib.hid hb
  clear hb
  go_enter Try.func44, Try.ntmps44
  go_wp2_with fail
  refine (within_q q 127 b Hb.out _).mono ?_
  rintro e w_ ⟨rfl, rfl⟩
  go_wp2_with fail
  go_ret
  exact ⟨ret_bool rfl, below_alloc1 _ _⟩

set_option maxRecDepth 100000 in
set_option maxHeartbeats 2000000 in
theorem right_0 (t r s q : Int) (b : Bool) (h1 : ¬ s = 1) (h2 : ¬ s = 2) (h3 : ¬ s = 3) (hb : b = false) (w : World) :
    Calls Try.prog 44 #[CV.v ⟨t, r, s, q⟩] w fun e w' => e = .returned (.bool b) ∧ Below w.heap.size w w' := by
  have g1 : (s == 1) = false := by simpa using h1
  have g2 : (s == 2) = false := by simpa using h2
  have g3 : (s == 3) = false := by simpa using h3
  subst hb
  go_enter Try.func44, Try.ntmps44
  go_wp2_with fail
  go_ret
  exact ⟨ret_bool rfl, below_alloc1 _ _⟩

theorem right_q_NCn (c : CV) (b : Bool) (hb : rightV_NCn c = b) (w : World) :
    Calls Try.prog 44 #[c.v] w fun e w' => e = .returned (.bool b) ∧ Below w.heap.size w w' := by
  obtain ⟨t, r, s, q⟩ := c
  have hb' : b = true ↔ OkC ⟨t, r, s, q⟩ := by rw [← hb]; unfold rightV_NCn; exact decide_eq_true_iff
  unfold OkC at hb'
  dsimp only at hb'
  clear hb
  by_cases s1 : s = 1
  · by_cases h1 : 0 ≤ t ∧ t ≤ 127
    · by_cases h2 : 0 ≤ r ∧ r ≤ 127
      · exact right_1c t r s q b s1 (by simpa using h1) (by simpa using h2) (by rw [Bool.eq_iff_iff, hb']; simp only [decide_eq_true_eq, beq_iff_eq]; omega) w
      · exact right_1b t r s q b s1 (by simpa using h1) (by simpa using h2) (by cases b <;> simp only [true_iff, reduceCtorEq, false_iff] at hb' ⊢ <;> omega) w
    · exact right_1a t r s q b s1 (by simpa using h1) (by cases b <;> simp only [true_iff, reduceCtorEq, false_iff] at hb' ⊢ <;> omega) w
  by_cases s2 : s = 2
  · by_cases h1 : 0 ≤ t ∧ t ≤ 255
    · by_cases h2 : 0 ≤ r ∧ r ≤ 255
      · by_cases h3 : 127 < max t r
        · exact right_2d t r s q b s2 (by simpa using h1) (by simpa using h2) _ rfl h3 (by rw [Bool.eq_iff_iff, hb']; simp only [decide_eq_true_eq, beq_iff_eq]; omega) w
        · exact right_2c t r s q b s2 (by simpa using h1) (by simpa using h2) _ rfl h3 (by cases b <;> simp only [true_iff, reduceCtorEq, false_iff] at hb' ⊢ <;> omega) w
      · exact right_2b t r s q b s2 (by simpa using h1) (by simpa using h2) (by cases b <;> simp only [true_iff, reduceCtorEq, false_iff] at hb' ⊢ <;> omega) w
    · exact right_2a t r s q b s2 (by simpa using h1) (by cases b <;> simp only [true_iff, reduceCtorEq, false_iff] at hb' ⊢ <;> omega) w
  by_cases s3 : s = 3
  · by_cases h1 : t = 256
    · by_cases h2 : r = 0
      · exact right_3c t r s q b s3 h1 h2 (by rw [Bool.eq_iff_iff, hb']; simp only [decide_eq_true_eq]; omega) w
      · exact right_3b t r s q b s3 h1 h2 (by cases b <;> simp only [true_iff, reduceCtorEq, false_iff] at hb' ⊢ <;> omega) w
    · exact right_3a t r s q b s3 h1 (by cases b <;> simp only [true_iff, reduceCtorEq, false_iff] at hb' ⊢ <;> omega) w
  exact right_0 t r s q b s1 s2 s3 (by cases b <;> simp only [true_iff, reduceCtorEq, false_iff] at hb' ⊢ <;> omega) w

set_option maxRecDepth 100000 in
set_option maxHeartbeats 2000000 in
theorem refR_3a (t r s q : Int) (b : Bool) (hs : s = 3) (h1 : (t == 256) = false) (hb : b = false) (w : World) :
    Calls Try.prog 46 #[CV.v ⟨t, r, s, q⟩] w fun e w' => e = .returned (.bool b) ∧ Below w.heap.size w w' := by
  subst hs
  subst hb
  go_enter Try.func46, Try.ntmps46
  go_wp2_with fail
  go_ret
  exact ⟨ret_bool rfl, below_alloc1 _ _⟩

set_option maxRecDepth 100000 in
set_option maxHeartbeats 2000000 in
theorem refR_3b (t r s q : Int) (b : Bool) (hs : s = 3) (h1 : t = 256) (h2 : (r == 0) = false) (hb : b = false) (w : World) :
    Calls Try.prog 46 #[CV.v ⟨t, r, s, q⟩] w fun e w' => e = .returned (.bool b) ∧ Below w.heap.size w w' := by
  subst hs h1
  subst hb
  go_enter Try.func46, Try.ntmps46
  go_wp2_with fail
  go_ret
  exact ⟨ret_bool rfl, below_alloc1 _ _⟩

set_option maxRecDepth 100000 in
set_option maxHeartbeats 2000000 in
theorem refR_3c (t r s q : Int) (b : Bool) (hs : s = 3) (h1 : t = 256) (h2 : r = 0) (h3 : ¬ 0 ≤ q) (hb : b = false) (w : World) :
    Calls Try.prog 46 #[CV.v ⟨t, r, s, q⟩] w fun e w' => e = .returned (.bool b) ∧ Below w.heap.size w w' := by
  subst hs h1 h2
  subst hb
  go_enter Try.func46, Try.ntmps46
  go_wp2_with fail
  go_ret
  exact ⟨ret_bool rfl, below_alloc1 _ _⟩

set_option maxRecDepth 100000 in
set_option maxHeartbeats 2000000 in
theorem refR_3d (t r s q : Int) (b : Bool) (hs : s = 3) (h1 : t = 256) (h2 : r = 0) (h3 : 0 ≤ q) (hb : b = decide (q ≤ 127)) (w : World) :
    Calls Try.prog 46 #[CV.v ⟨t, r, s, q⟩] w fun e w' => e = .returned (.bool b) ∧ Below w.heap.size w w' := by
  subst hs h1 h2
  have Hb := Lib.hid hb
  clear hb
  go_enter Try.func46, Try.ntmps46
  go_wp2_with fail
  go_ret
  exact ⟨ret_bool (by rw [Hb.out]), below_alloc1 _ _⟩

set_option maxRecDepth 100000 in
set_option maxHeartbeats 2000000 in
theorem refR_a (t r s q : Int) (b : Bool) (hs : (s == 3) = false) (h1 : t < 0) (hb : b = false) (w : World) :
    Calls Try.prog 46 #[CV.v ⟨t, r, s, q⟩] w fun e w' => e = .returned (.bool b) ∧ Below w.heap.size w w' := by
  subst hb
  go_enter Try.func46, Try.ntmps46
  go_wp2_with fail
  go_ret
  exact ⟨ret_bool rfl, below_alloc1 _ _⟩

set_option maxRecDepth 100000 in
set_option maxHeartbeats 2000000 in
theorem refR_b (t r s q : Int) (b : Bool) (hs : (s == 3) = false) (h1 : ¬ t < 0) (h2 : 255 < t) (hb : b = false) (w : World) :
    Calls Try.prog 46 #[CV.v ⟨t, r, s, q⟩] w fun e w' => e = .returned (.bool b) ∧ Below w.heap.size w w' := by
  subst hb
  go_enter Try.func46, Try.ntmps46
  go_wp2_with fail
  go_ret
  exact ⟨ret_bool rfl, below_alloc1 _ _⟩

set_option maxRecDepth 100000 in
set_option maxHeartbeats 2000000 in
theorem refR_c (t r s q : Int) (b : Bool) (hs : (s == 3) = false) (h1 : ¬ t < 0) (h2 : ¬ 255 < t) (h3 : r < 0) (hb : b = false) (w : World) :
    Calls Try.prog 46 #[CV.v ⟨t, r, s, q⟩] w fun e w' => e = .returned (.bool b) ∧ Below w.heap.size w w' := by
  subst hb
  go_enter Try.func46, Try.ntmps46
  go_wp2_with fail
  go_ret
  exact ⟨ret_bool rfl, below_alloc1 _ _⟩

set_option maxRecDepth 100000 in
set_option maxHeartbeats 2000000 in
theorem refR_d (t r s q : Int) (b : Bool) (hs : (s == 3) = false) (h1 : ¬ t < 0) (h2 : ¬ 255 < t) (h3 : ¬ r < 0) (h4 : 255 < r) (hb : b = false) (w : World) :
    Calls Try.prog 46 #[CV.v ⟨t, r, s, q⟩] w fun e w' => e = .returned (.bool b) ∧ Below w.heap.size w w' := by
  subst hb
  go_enter Try.func46, Try.ntmps46
  go_wp2_with fail
  go_ret
  exact ⟨ret_bool rfl, below_alloc1 _ _⟩

set_option maxRecDepth 100000 in
set_option maxHeartbeats 2000000 in
theorem refR_e (t r s q : Int) (b : Bool) (hs : (s == 3) = false) (h1 : ¬ t < 0) (h2 : ¬ 255 < t) (h3 : ¬ r < 0) (h4 : ¬ 255 < r) (h5 : ¬ q = 0) (hb : b = false) (w : World) :
    Calls Try.prog 46 #[CV.v ⟨t, r, s, q⟩] w fun e w' => e = .returned (.bool b) ∧ Below w.heap.size w w' := by
  subst hb
  go_enter Try.func46, Try.ntmps46
  go_wp2_with fail
  go_ret
  exact ⟨ret_bool rfl, below_alloc1 _ _⟩

set_option maxRecDepth 100000 in
set_option maxHeartbeats 2000000 in
theorem refR_f (t r s q : Int) (b : Bool) (hs : (s == 3) = false) (h1 : ¬ t < 0) (h2 : ¬ 255 < t) (h3 : ¬ r < 0) (h4 : ¬ 255 < r) (h5 : q = 0) (h6 : 127 < t) (hb : b = (s == 2)) (w : World) :
    Calls Try.prog 46 #[CV.v ⟨t, r, s, q⟩] w fun e w' => e = .returned (.bool b) ∧ Below w.heap.size w w' := by
  have Hb := Lib.hid hb
  clear hb
  subst h5
  go_enter Try.func46, Try.ntmps46
  go_wp2_with fail
  go_ret
  exact ⟨ret_bool (by rw [Hb.out]), below_alloc1 _ _⟩

set_option maxRecDepth 100000 in
set_option maxHeartbeats 2000000 in
theorem refR_g (t r s q : Int) (b : Bool) (hs : (s == 3) = false) (h1 : ¬ t < 0) (h2 : ¬ 255 < t) (h3 : ¬ r < 0) (h4 : ¬ 255 < r) (h5 : q = 0) (h6 : ¬ 127 < t) (h7 : 127 < r) (hb : b = (s == 2)) (w : World) :
    Calls Try.prog 46 #[CV.v ⟨t, r, s, q⟩] w fun e w' => e = .returned (.bool b) ∧ Below w.heap.size w w' := by
  have Hb := Lib.hid hb
  clear hb
  subst h5
  go_enter Try.func46, Try.ntmps46
  go_wp2_with fail
  go_ret
  exact ⟨ret_bool (by rw [Hb.out]), below_alloc1 _ _⟩

set_option maxRecDepth 100000 in
set_option maxHeartbeats 2000000 in
theorem refR_h (t r s q : Int) (b : Bool) (hs : (s == 3) = false) (h1 : ¬ t < 0) (h2 : ¬ 255 < t) (h3 : ¬ r < 0) (h4 : ¬ 255 < r) (h5 : q = 0) (h6 : ¬ 127 < t) (h7 : ¬ 127 < r) (hb : b = (s == 1)) (w : World) :
    Calls Try.prog 46 #[CV.v ⟨t, r, s, q⟩] w fun e w' => e = .returned (.bool b) ∧ Below w.heap.size w w' := by
  have Hb := Lib.hid hb
  clear hb
  subst h5
  go_enter Try.func46, Try.ntmps46
  go_wp2_with fail
  go_ret
  exact ⟨ret_bool (by rw [Hb.out]), below_alloc1 _ _⟩

theorem refRight_q_NCn (c : CV) (b : Bool) (hb : rightV_NCn c = b) (w : World) :
    Calls Try.prog 46 #[c.v] w fun e w' => e = .returned (.bool b) ∧ Below w.heap.size w w' := by
  obtain ⟨t, r, s, q⟩ := c
  have hb' : b = true ↔ OkC ⟨t, r, s, q⟩ := by rw [← hb]; unfold rightV_NCn; exact decide_eq_true_iff
  unfold OkC at hb'
  dsimp only at hb'
  clear hb
  by_cases s3 : s = 3
  · by_cases h1 : t = 256
    · by_cases h2 : r = 0
      · by_cases h3 : 0 ≤ q
        · exact refR_3d t r s q b s3 h1 h2 h3 (by rw [Bool.eq_iff_iff, hb']; simp only [decide_eq_true_eq, beq_iff_eq]; omega) w
        · exact refR_3c t r s q b s3 h1 h2 h3 (by cases b <;> simp only [true_iff, reduceCtorEq, false_iff] at hb' ⊢ <;> omega) w
      · exact refR_3b t r s q b s3 h1 (by simpa using h2) (by cases b <;> simp only [true_iff, reduceCtorEq, false_iff] at hb' ⊢ <;> omega) w
    · exact refR_3a t r s q b s3 (by simpa using h1) (by cases b <;> simp only [true_iff, reduceCtorEq, false_iff] at hb' ⊢ <;> omega) w
  have sn : (s == 3) = false := by simpa using s3
  by_cases h1 : t < 0
  · exact refR_a t r s q b sn h1 (by cases b <;> simp only [true_iff, reduceCtorEq, false_iff] at hb' ⊢ <;> omega) w
  by_cases h2 : 255 < t
  · exact refR_b t r s q b sn h1 h2 (by cases b <;> simp only [true_iff, reduceCtorEq, false_iff] at hb' ⊢ <;> omega) w
  by_cases h3 : r < 0
  · exact refR_c t r s q b sn h1 h2 h3 (by cases b <;> simp only [true_iff, reduceCtorEq, false_iff] at hb' ⊢ <;> omega) w
  by_cases h4 : 255 < r
  · exact refR_d t r s q b sn h1 h2 h3 h4 (by cases b <;> simp only [true_iff, reduceCtorEq, false_iff] at hb' ⊢ <;> omega) w
  by_cases h5 : q = 0
  · by_cases h6 : 127 < t
    · exact refR_f t r s q b sn h1 h2 h3 h4 h5 h6 (by rw [Bool.eq_iff_iff, hb']; simp only [decide_eq_true_eq, beq_iff_eq]; omega) w
    by_cases h7 : 127 < r
    · exact refR_g t r s q b sn h1 h2 h3 h4 h5 h6 h7 (by rw [Bool.eq_iff_iff, hb']; simp only [decide_eq_true_eq, beq_iff_eq]; omega) w
    · exact refR_h t r s q b sn h1 h2 h3 h4 h5 h6 h7 (by rw [Bool.eq_iff_iff, hb']; simp only [decide_eq_true_eq, beq_iff_eq]; omega) w
  · exact refR_e t r s q b sn h1 h2 h3 h4 h5 (by cases b <;> simp only [true_iff, reduceCtorEq, false_iff] at hb' ⊢ <;> omega) w

end Go.Proofs.Ytlbgilbigcnleaa
