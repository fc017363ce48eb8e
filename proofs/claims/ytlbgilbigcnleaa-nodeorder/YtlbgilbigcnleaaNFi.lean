/-
  Fil0 · Fil1 · Fil2 · Fil3 · Fil4 · Head7: what this seat needs of them.
-/
import Derived.Test.YtlbgilbigcnleaaNBi
import Derived.Test.YtlbgilbigcnleaaNFr
import Derived.Test.YtlbgilbigcnleaaNRk
import Derived.Test.YtlbgilbigcnleaaNAm
import Derived.Test.YtlbgilbigcnleaaNAr
import Derived.WalkKit
import Derived.WalkSpells
import Derived.WalkLawsBesides
import Derived.Deep.QuietTactic
import Derived.BigQuiet
import Derived.Deep.Draws
import Derived.Lib.Hide
import Derived.Laws.BitsAllLaws
import Derived.Laws.BitsLemmas
import Derived.Maps.AppendAt
import Derived.OwnWalk
import Derived.Below
import Derived.RangeFuncBox
import Derived.Deep.RegionHeld3
import Derived.Deep.CutRange
import Derived.Deep.OwnRows
import Derived.Lib.JoinLaws
namespace Go.Proofs.Ytlbgilbigcnleaa
open Go.RowKit
set_option linter.unusedVariables false
set_option linter.unusedSimpArgs false

/-- The three cells of a filter that lies in a block. -/
theorem cells3 {w : World} {F : Nat} {a b c : Value} {t : TypeId} (h : w.heap[F]? = some (.cells #[a, b, c] t)) :
    (w.cell? ⟨F, 0, none⟩ = some a ∧ w.cell? ⟨F, 1, none⟩ = some b ∧ w.cell? ⟨F, 2, none⟩ = some c) ∧
    w.frozen? ⟨F, 0, none⟩ = false ∧ w.frozen? ⟨F, 1, none⟩ = false ∧ w.frozen? ⟨F, 2, none⟩ = false := by
  simp [World.cell?, World.frozen?, h]

theorem cells3' {w : World} {F : Nat} {a b c : Value} {t : TypeId} (h : w.heap[F]? = some (.cells #[a, b, c] t)) :
    w.cell? ⟨F, 0, none⟩ = some a ∧ w.cell? ⟨F, 1, none⟩ = some b ∧ w.cell? ⟨F, 2, none⟩ = some c := (cells3 h).1

/-- A filter as it lies in memory. -/
structure FL where
  x : Bool
  k : Int
  m : Int
deriving DecidableEq

abbrev FL.v (f : FL) : Value := .agg #[.bool f.x, .int .i64 f.k, .int .i64 f.m]

def FL.cs (f : FL) : List Value := [.bool f.x, .int .i64 f.k, .int .i64 f.m]

/-- A filter lies in block F; a frame does. -/
abbrev HasL (w : World) (F : Nat) (f : FL) : Prop := w.heap[F]? = some (.cells #[.bool f.x, .int .i64 f.k, .int .i64 f.m] 61)

abbrev HasF (w : World) (F : Nat) (f : FV) : Prop := w.heap[F]? = some (.cells #[.bool f.x, .int .i64 f.i, .bool f.r, .int .i64 f.n, .slice f.a f.m f.c] 30)

abbrev CL (W : World) (F : Nat) (f : FL) : Prop := W.cell? ⟨F, 0, none⟩ = some (.bool f.x) ∧ W.cell? ⟨F, 1, none⟩ = some (.int .i64 f.k) ∧ W.cell? ⟨F, 2, none⟩ = some (.int .i64 f.m)

abbrev CF (W : World) (F : Nat) (f : FV) : Prop := W.cell? ⟨F, 0, none⟩ = some (.bool f.x) ∧ W.cell? ⟨F, 1, none⟩ = some (.int .i64 f.i) ∧ W.cell? ⟨F, 2, none⟩ = some (.bool f.r) ∧ W.cell? ⟨F, 3, none⟩ = some (.int .i64 f.n) ∧ W.cell? ⟨F, 4, none⟩ = some (.slice f.a f.m f.c)

theorem HasL.cl {w : World} {F : Nat} {f : FL} (h : HasL w F f) : CL w F f := cells3' h

theorem HasF.cf {w : World} {F : Nat} {f : FV} (h : HasF w F f) : CF w F f := cells5' h

theorem load_fr_NFi {w : World} {F : Nat} {f : FV} (h : HasF w F f) : (loadVar 30 ⟨F, 0, none⟩).run Try.prog w = .ok f.v w := by
  obtain ⟨⟨c0, c1, c2, c3, c4⟩, _⟩ := cells5 h
  simp [go_sem, c0, c1, c2, c3, c4]

theorem results_fr_NFi {fn : Func} {p : Tmp} (hf : fn.results = #[.cell p 30]) (tmps : Array Value) {w : World} {F : Nat} {f : FV} (ht : tmps.getD p undef = .pointer (some ⟨F, 0, none⟩)) (h : HasF w F f) :
    (results fn tmps).run Try.prog w = .ok f.v w := by
  have hl := load_fr_NFi h
  have ht' : tmps[p]?.getD undef = .pointer (some ⟨F, 0, none⟩) := by simpa using ht
  simp only [results, hf]
  simp [ht', asAddr, hl]

theorem load_fl {w : World} {F : Nat} {f : FL} (h : HasL w F f) : (loadVar 61 ⟨F, 0, none⟩).run Try.prog w = .ok f.v w := by
  obtain ⟨⟨c0, c1, c2⟩, _⟩ := cells3 h
  simp [go_sem, c0, c1, c2]

theorem results_fl {fn : Func} {p : Tmp} (hf : fn.results = #[.cell p 61]) (tmps : Array Value) {w : World} {F : Nat} {f : FL} (ht : tmps.getD p undef = .pointer (some ⟨F, 0, none⟩)) (h : HasL w F f) :
    (results fn tmps).run Try.prog w = .ok f.v w := by
  have hl := load_fl h
  have ht' : tmps[p]?.getD undef = .pointer (some ⟨F, 0, none⟩) := by simpa using ht
  simp only [results, hf]
  simp [ht', asAddr, hl]

def takesV (f : FL) (x : Bool) (i : Int) : Bool := (x == f.x) && (bits .and .i64 i f.k == f.m)

def withinV (f : FL) (k : Int) : FL := ⟨f.x, bits .and .i64 f.k k, bits .and .i64 f.m k⟩

def coversV (a b : FL) : Bool := decide (withinV b a.k = a)

def meetsV (a b : FL) : Bool := decide (withinV a b.k = withinV b a.k)

theorem fl_ext {a b : FL} : a = b ↔ a.x = b.x ∧ a.k = b.k ∧ a.m = b.m := by
  cases a; cases b; simp

def sameL (a b : FL) : Bool := decide (a = b)

set_option maxRecDepth 100000 in
theorem eqIn_fl (x : Bool) (k m : Int) (x' : Bool) (k' m' : Int) (w : World) :
    (Op.equalIn 10000 61 (.agg #[.bool x, .int .i64 k, .int .i64 m]) (.agg #[.bool x', .int .i64 k', .int .i64 m'])).run Try.prog w = .ok (sameL ⟨x, k, m⟩ ⟨x', k', m'⟩) w := by
  by_cases h1 : x = x' <;> by_cases h2 : k = k' <;> by_cases h3 : m = m' <;> simp [go_sem, sameL, h1, h2, h3]

theorem eq_fl (x : Bool) (k m : Int) (x' : Bool) (k' m' : Int) (w : World) :
    (binOp .eql 61 (.agg #[.bool x, .int .i64 k, .int .i64 m]) (.agg #[.bool x', .int .i64 k', .int .i64 m'])).run Try.prog w = .ok (.bool (sameL ⟨x, k, m⟩ ⟨x', k', m'⟩)) w := by
  rw [run_eql_struct, eqIn_fl]
  rfl

theorem below_two (w : World) (o1 o2 : Obj) : Below w.heap.size w ((w.alloc o1).alloc o2) := below_then (below_alloc1 _ _) (below_alloc1 _ _)

set_option maxRecDepth 100000 in
set_option maxHeartbeats 2000000 in
theorem takes_any (f : FL) (g : FV) (w : World) :
    Calls Try.prog 74 #[f.v, g.v] w fun e w' => e = .returned (.bool (takesV f g.x g.i)) ∧ Below w.heap.size w w' := by
  go_enter Try.func74, Try.ntmps74
  go_wp2_with fail
  all_goals
    go_ret
    exact ⟨ret_bool (by simp [takesV, *]), below_two _ _ _⟩

set_option maxRecDepth 100000 in
set_option maxHeartbeats 2000000 in
theorem refTakes_any (f : FL) (g : FV) (w : World) :
    Calls Try.prog 59 #[f.v, g.v] w fun e w' => e = .returned (.bool (takesV f g.x g.i)) ∧ Below w.heap.size w w' := by
  cases hx : f.x == g.x
  all_goals
    go_enter Try.func59, Try.ntmps59
    go_wp2_with fail
    go_ret
    refine ⟨ret_bool ?_, below_two _ _ _⟩
    rw [Bool.eq_iff_iff]
    simp only [beq_eq_false_iff_ne, beq_iff_eq, ne_eq] at hx
    simp [takesV, hx]
    try (intro h; exact absurd h.symm hx)

theorem blk1 (w : World) (o1 o2 : Obj) : ((w.alloc o1).alloc o2).heap[w.heap.size]? = some o1 := block_below (below_alloc1 _ _) (World.alloc_heap_new _ _)

theorem blk2_NFi (w : World) (o1 o2 : Obj) : ((w.alloc o1).alloc o2).heap[w.heap.size + 1]? = some o2 := by
  have := World.alloc_heap_new (w.alloc o1) o2
  simpa using this

theorem held_ll {w : World} {F G : Nat} {a b : FL} (h1 : HasL w F a) (h2 : HasL w G b) :
    w.cell? ⟨F, 0, none⟩ = some (.bool a.x) ∧ w.cell? ⟨F, 1, none⟩ = some (.int .i64 a.k) ∧ w.cell? ⟨F, 2, none⟩ = some (.int .i64 a.m) ∧ w.cell? ⟨G, 0, none⟩ = some (.bool b.x) ∧ w.cell? ⟨G, 1, none⟩ = some (.int .i64 b.k) ∧ w.cell? ⟨G, 2, none⟩ = some (.int .i64 b.m) := by
  obtain ⟨a0, a1, a2⟩ := cells3' h1
  obtain ⟨b0, b1, b2⟩ := cells3' h2
  exact ⟨a0, a1, a2, b0, b1, b2⟩

def mostL (x : Bool) : Int := if x then 536870912 else 2048

def rightP (f : FL) : Bool := decide (0 ≤ f.k ∧ f.k < mostL f.x) && (bits .andNot .i64 f.m f.k == 0)

def refRightP (f : FL) : Bool := decide (0 ≤ f.k ∧ f.k < mostL f.x ∧ 0 ≤ f.m ∧ f.m < mostL f.x) && (bits .and .i64 f.m f.k == f.m)

def refCoversP (a b : FL) : Bool := (a.x == b.x) && (bits .and .i64 a.k b.k == a.k) && (bits .and .i64 b.m a.k == a.m)

def refMeetsP (a b : FL) : Bool := (a.x == b.x) && (bits .and .i64 (bits .and .i64 (bits .xor .i64 a.m b.m) a.k) b.k == 0)

theorem below2 (w : World) (o1 o2 : Obj) : Below w.heap.size w ((w.alloc o1).alloc o2) := below_then (below_alloc1 _ _) (below_alloc1 _ _)

set_option maxRecDepth 100000 in
set_option maxHeartbeats 2000000 in
theorem right_any (f : FL) (w : World) :
    Calls Try.prog 38 #[f.v] w fun e w' => e = .returned (.bool (rightP f)) ∧ Below w.heap.size w w' := by
  obtain ⟨x, k, m⟩ := f
  have Hfin := Lib.hid (below_alloc1 w (.cells #[.bool x, .int .i64 k, .int .i64 m] 61))
  rcases dec (0 ≤ k) with ⟨d1, h1⟩ | ⟨d1, h1⟩
  · cases x
    · rcases dec (k ≤ 2047) with ⟨d2, h2⟩ | ⟨d2, h2⟩
      all_goals
        go_enter Try.func38, Try.ntmps38
        go_wp2_with fail
        go_ret
        exact ⟨ret_bool (by rw [Bool.eq_iff_iff]; simp [rightP, mostL]; omega), Hfin.out⟩
    · rcases dec (k ≤ 536870911) with ⟨d2, h2⟩ | ⟨d2, h2⟩
      all_goals
        go_enter Try.func38, Try.ntmps38
        go_wp2_with fail
        go_ret
        exact ⟨ret_bool (by rw [Bool.eq_iff_iff]; simp [rightP, mostL]; omega), Hfin.out⟩
  · cases x
    all_goals
      go_enter Try.func38, Try.ntmps38
      go_wp2_with fail
      go_ret
      exact ⟨ret_bool (by rw [Bool.eq_iff_iff]; simp [rightP, mostL]; omega), Hfin.out⟩

set_option maxRecDepth 100000 in
set_option maxHeartbeats 2000000 in
theorem refRight_any (f : FL) (w : World) :
    Calls Try.prog 62 #[f.v] w fun e w' => e = .returned (.bool (refRightP f)) ∧ Below w.heap.size w w' := by
  obtain ⟨x, k, m⟩ := f
  have Hfin := Lib.hid (below_alloc1 w (.cells #[.bool x, .int .i64 k, .int .i64 m] 61))
  obtain ⟨M, hM⟩ : ∃ M, mostL x = M := ⟨_, rfl⟩
  rcases dec (0 ≤ k) with ⟨d1, h1⟩ | ⟨d1, h1⟩
  · cases x
    · rcases dec (k < 2048) with ⟨d2, h2⟩ | ⟨d2, h2⟩
      · rcases dec (0 ≤ m) with ⟨d3, h3⟩ | ⟨d3, h3⟩
        · rcases dec (m < 2048) with ⟨d4, h4⟩ | ⟨d4, h4⟩
          all_goals
            go_enter Try.func62, Try.ntmps62
            go_wp2_with fail
            go_ret
            exact ⟨ret_bool (by rw [Bool.eq_iff_iff]; simp [refRightP, mostL]; omega), Hfin.out⟩
        · go_enter Try.func62, Try.ntmps62
          go_wp2_with fail
          go_ret
          exact ⟨ret_bool (by rw [Bool.eq_iff_iff]; simp [refRightP, mostL]; omega), Hfin.out⟩
      · go_enter Try.func62, Try.ntmps62
        go_wp2_with fail
        go_ret
        exact ⟨ret_bool (by rw [Bool.eq_iff_iff]; simp [refRightP, mostL]; omega), Hfin.out⟩
    · rcases dec (k < 536870912) with ⟨d2, h2⟩ | ⟨d2, h2⟩
      · rcases dec (0 ≤ m) with ⟨d3, h3⟩ | ⟨d3, h3⟩
        · rcases dec (m < 536870912) with ⟨d4, h4⟩ | ⟨d4, h4⟩
          all_goals
            go_enter Try.func62, Try.ntmps62
            go_wp2_with fail
            go_ret
            exact ⟨ret_bool (by rw [Bool.eq_iff_iff]; simp [refRightP, mostL]; omega), Hfin.out⟩
        · go_enter Try.func62, Try.ntmps62
          go_wp2_with fail
          go_ret
          exact ⟨ret_bool (by rw [Bool.eq_iff_iff]; simp [refRightP, mostL]; omega), Hfin.out⟩
      · go_enter Try.func62, Try.ntmps62
        go_wp2_with fail
        go_ret
        exact ⟨ret_bool (by rw [Bool.eq_iff_iff]; simp [refRightP, mostL]; omega), Hfin.out⟩
  · cases x
    all_goals
      go_enter Try.func62, Try.ntmps62
      go_wp2_with fail
      go_ret
      exact ⟨ret_bool (by rw [Bool.eq_iff_iff]; simp [refRightP, mostL]; omega), Hfin.out⟩

/-- A right frame? -/
def frRightP (g : FV) : Bool := decide (0 ≤ g.i ∧ g.i < mostL g.x ∧ 0 ≤ g.n ∧ g.n ≤ 8 ∧ (g.m : Int) = if g.r then 0 else g.n)

set_option maxRecDepth 100000 in
set_option maxHeartbeats 2000000 in
theorem refFrRight_any (g : FV) (w : World) :
    Calls Try.prog 29 #[g.v] w fun e w' => e = .returned (.bool (frRightP g)) ∧ Below w.heap.size w w' := by
  obtain ⟨x, i, r, n, A, m, c⟩ := g
  have Hfin := Lib.hid (below_alloc1 w (.cells #[.bool x, .int .i64 i, .bool r, .int .i64 n, .slice A m c] 30))
  rcases dec (i < 0) with ⟨d1, h1⟩ | ⟨d1, h1⟩
  · cases x
    all_goals
      go_enter Try.func29, Try.ntmps29
      go_wp2_with fail
      go_ret
      exact ⟨ret_bool (by rw [Bool.eq_iff_iff]; simp [frRightP, mostL]; omega), Hfin.out⟩
  · cases x
    · rcases dec (2048 ≤ i) with ⟨d2, h2⟩ | ⟨d2, h2⟩
      · go_enter Try.func29, Try.ntmps29
        go_wp2_with fail
        go_ret
        exact ⟨ret_bool (by rw [Bool.eq_iff_iff]; simp [frRightP, mostL]; omega), Hfin.out⟩
      rcases dec (n < 0) with ⟨d3, h3⟩ | ⟨d3, h3⟩
      · go_enter Try.func29, Try.ntmps29
        go_wp2_with fail
        go_ret
        exact ⟨ret_bool (by rw [Bool.eq_iff_iff]; simp [frRightP, mostL]; omega), Hfin.out⟩
      rcases dec (8 < n) with ⟨d4, h4⟩ | ⟨d4, h4⟩
      all_goals
        cases r
        all_goals
          go_enter Try.func29, Try.ntmps29
          go_wp2_with fail
          go_ret
          exact ⟨ret_bool (by rw [Bool.eq_iff_iff]; simp [frRightP, mostL]; omega), Hfin.out⟩
    · rcases dec (536870912 ≤ i) with ⟨d2, h2⟩ | ⟨d2, h2⟩
      · go_enter Try.func29, Try.ntmps29
        go_wp2_with fail
        go_ret
        exact ⟨ret_bool (by rw [Bool.eq_iff_iff]; simp [frRightP, mostL]; omega), Hfin.out⟩
      rcases dec (n < 0) with ⟨d3, h3⟩ | ⟨d3, h3⟩
      · go_enter Try.func29, Try.ntmps29
        go_wp2_with fail
        go_ret
        exact ⟨ret_bool (by rw [Bool.eq_iff_iff]; simp [frRightP, mostL]; omega), Hfin.out⟩
      rcases dec (8 < n) with ⟨d4, h4⟩ | ⟨d4, h4⟩
      all_goals
        cases r
        all_goals
          go_enter Try.func29, Try.ntmps29
          go_wp2_with fail
          go_ret
          exact ⟨ret_bool (by rw [Bool.eq_iff_iff]; simp [frRightP, mostL]; omega), Hfin.out⟩

def LAt (w : World) (a : Addr) (f : FL) : Prop :=
  w.cell? a = some (.bool f.x) ∧ w.cell? ⟨a.block, a.off + 1, none⟩ = some (.int .i64 f.k) ∧ w.cell? ⟨a.block, a.off + 2, none⟩ = some (.int .i64 f.m)

/-- A slice of filters. -/
def LRow (w : World) (B : Nat) (A : Option Addr) (fs : List FL) : Prop :=
  fs = [] ∨ ∃ ad, A = some ad ∧ ad.block < B ∧ ∀ k f, fs[k]? = some f → LAt w (ad.add (k * 3)) f

theorem LRow.get_ {w : World} {B : Nat} {A : Option Addr} {fs : List FL} (h : LRow w B A fs) {k : Nat} (hk : k < fs.length) : ∃ ad f, A = some ad ∧ fs[k]? = some f ∧ LAt w (ad.add (k * 3)) f := by
  rcases h with rfl | ⟨ad, e, _, hc⟩
  · simp at hk
  · exact ⟨ad, fs[k], e, List.getElem?_eq_getElem hk, hc k _ (List.getElem?_eq_getElem hk)⟩

theorem LRow.move {w w' : World} {B : Nat} {A : Option Addr} {fs : List FL} (h : LRow w B A fs) (hk : ∀ p : Addr, p.block < B → w'.cell? p = w.cell? p) : LRow w' B A fs := by
  rcases h with rfl | ⟨ad, e, hb, hc⟩
  · exact .inl rfl
  · refine .inr ⟨ad, e, hb, fun k f hf => ?_⟩
    obtain ⟨h0, h1, h2⟩ := hc k f hf
    have hb' : (ad.add (k * 3)).block < B := by rw [addr_block]; exact hb
    exact ⟨(hk _ hb').trans h0, (hk ⟨_, _, none⟩ hb').trans h1, (hk ⟨_, _, none⟩ hb').trans h2⟩

theorem LRow.more {w : World} {B B' : Nat} {A : Option Addr} {fs : List FL} (h : LRow w B A fs) (hB : B ≤ B') : LRow w B' A fs := by
  rcases h with rfl | ⟨ad, e, hb, hc⟩
  · exact .inl rfl
  · exact .inr ⟨ad, e, by omega, hc⟩

theorem LRow.below {w w' : World} {B : Nat} {A : Option Addr} {fs : List FL} (h : LRow w B A fs) (hb : Below B w w') : LRow w' B A fs := h.move fun _ hp => hb.cell hp

theorem LRow.to {a b : World} {A : Option Addr} {fs : List FL} (h : LRow a a.heap.size A fs) (k : Below a.heap.size a b) : LRow b b.heap.size A fs := (h.below k).more k.size

theorem frow_step {a b : World} {A : Option Addr} {fs : List FL} (k : Below a.heap.size a b) (h : LRow a a.heap.size A fs) : LRow b b.heap.size A fs := h.to k

def lcells (fs : List FL) : List Value := fs.flatMap FL.cs

theorem lcells_len (fs : List FL) : (lcells fs).length = fs.length * 3 := by
  induction fs with
  | nil => rfl
  | cons f fs ih => simp only [lcells, List.flatMap_cons, List.length_append, List.length_cons] at ih ⊢; rw [ih]; simp [FL.cs]; omega

theorem lcells_app (a b : List FL) : lcells (a ++ b) = lcells a ++ lcells b := by simp [lcells]

theorem lcells_at : ∀ (fs : List FL) (k : Nat) (f : FL), fs[k]? = some f → (lcells fs)[k * 3]? = some (.bool f.x) ∧ (lcells fs)[k * 3 + 1]? = some (.int .i64 f.k) ∧ (lcells fs)[k * 3 + 2]? = some (.int .i64 f.m)
  | [], k, f, h => by simp at h
  | g :: fs, 0, f, h => by
    simp at h
    subst h
    simp [lcells, FL.cs]
  | g :: fs, k + 1, f, h => by
    obtain ⟨h0, h1, h2⟩ := lcells_at fs k f (by simpa using h)
    have e : lcells (g :: fs) = FL.cs g ++ lcells fs := rfl
    have hl : (FL.cs g).length = 3 := rfl
    rw [e]
    refine ⟨?_, ?_, ?_⟩
    · rw [List.getElem?_append_right (by omega), hl, show (k + 1) * 3 - 3 = k * 3 by omega]; exact h0
    · rw [List.getElem?_append_right (by omega), hl, show (k + 1) * 3 + 1 - 3 = k * 3 + 1 by omega]; exact h1
    · rw [List.getElem?_append_right (by omega), hl, show (k + 1) * 3 + 2 - 3 = k * 3 + 2 by omega]; exact h2

theorem lcells_one (fs : List FL) : ∀ u ∈ lcells fs, u.oneCell' = true := by
  intro u hu
  obtain ⟨f, _, hf⟩ := List.mem_flatMap.1 hu
  simp only [FL.cs, List.mem_cons, List.not_mem_nil, or_false] at hf
  rcases hf with rfl | rfl | rfl <;> rfl

abbrev LOwn (w : World) (base : Nat) (A : Option Addr) (n c : Nat) (fs : List FL) : Prop := w.ownsRow base 61 3 (.slice A n c) n (lcells fs)

/-- The cells of a slice of filters, all told. -/
theorem LRow.cells {w : World} {B : Nat} {ad : Addr} {fs : List FL} (h : LRow w B (some ad) fs) : ∀ j u, (lcells fs)[j]? = some u → w.cell? (ad.add j) = some u := by
  intro j u hu
  rcases h with rfl | ⟨ad', e, _, hc⟩
  · simp [lcells] at hu
  · obtain rfl := Option.some.inj e
    have hj : j < fs.length * 3 := by rw [← lcells_len]; exact (List.getElem?_eq_some_iff.1 hu).1
    obtain ⟨f, hf⟩ : ∃ f, fs[j / 3]? = some f := ⟨_, List.getElem?_eq_getElem (by omega)⟩
    obtain ⟨h0, h1, h2⟩ := lcells_at fs (j / 3) f hf
    obtain ⟨g0, g1, g2⟩ := hc (j / 3) f hf
    have key : ∀ i, 0 < i → ad.add (j / 3 * 3 + i) = ⟨(ad.add (j / 3 * 3)).block, (ad.add (j / 3 * 3)).off + i, none⟩ := by
      intro i h0
      rw [← addr_add, add_pos _ _ h0]
    obtain ⟨K, hK⟩ : ∃ K, j / 3 = K := ⟨_, rfl⟩
    rw [hK] at h0 h1 h2 g0 g1 g2 key
    have hr : j = K * 3 ∨ j = K * 3 + 1 ∨ j = K * 3 + 2 := by omega
    clear hK hf hj
    rcases hr with rfl | rfl | rfl
    · rw [h0] at hu
      rw [← Option.some.inj hu]
      exact g0
    · rw [h1] at hu
      rw [key 1 (by omega), ← Option.some.inj hu]
      exact g1
    · rw [h2] at hu
      rw [key 2 (by omega), ← Option.some.inj hu]
      exact g2

theorem LRow.of_cells {w : World} {g : Nat} {fs : List FL} (hg : g < w.heap.size) (h : ∀ j u, (lcells fs)[j]? = some u → w.cell? ((⟨g, 0, none⟩ : Addr).add j) = some u) : LRow w w.heap.size (some ⟨g, 0, none⟩) fs := by
  refine .inr ⟨_, rfl, hg, fun k f hf => ?_⟩
  obtain ⟨h0, h1, h2⟩ := lcells_at fs k f hf
  have e : ∀ i, (⟨g, 0, none⟩ : Addr).add (k * 3 + i) = ⟨((⟨g, 0, none⟩ : Addr).add (k * 3)).block, ((⟨g, 0, none⟩ : Addr).add (k * 3)).off + i, none⟩ := by
    intro i
    rw [add0, add0]
  exact ⟨h _ _ h0, by rw [← e]; exact h _ _ h1, by rw [← e]; exact h _ _ h2⟩

theorem LRow.own {w : World} {base : Nat} {A : Option Addr} {n c : Nat} {fs : List FL} (h : LOwn w base A n c fs) : LRow w w.heap.size A fs := by
  rcases h.2 with ⟨e1, e2⟩ | ⟨g, cap, cur, e1, hb, hg, _, _, _, ht⟩
  · left
    have := h.1
    rw [lcells_len] at this
    cases fs with
    | nil => rfl
    | cons f fs => simp at this; omega
  · have hA : A = some ⟨g, 0, none⟩ := by injection e1
    subst hA
    exact LRow.of_cells (Array.getElem?_eq_some_iff.1 hg).1 (h.cells (g := g) rfl)

theorem LOwn.len {w : World} {base : Nat} {A : Option Addr} {n c : Nat} {fs : List FL} (h : LOwn w base A n c fs) : fs.length = n := by
  have := h.1
  rw [lcells_len] at this
  omega

theorem Try.infoFl : (Try.prog.info? 61).map (fun i => (i.zero, i.size, i.bytes)) = some (some (.agg #[.bool false, .int .i64 0, .int .i64 0]), 3, 24) := by kernel_rfl

theorem run_append_fl (w : World) (base : Nat) (ty : TypeId) (v : Value) (n : Nat) (fs : List FL) (hown : w.ownsRow base 61 3 v n (lcells fs))
    (A : Option Addr) (m c B : Nat) (fs' : List FL) (hm : fs'.length = m) (hr : LRow w B A fs') (h63 : n + m ≤ 1000) (hbase : base ≤ w.heap.size) :
    ∃ A' c' w', (Builtin.append_ #[23, 23] ty #[v, .slice A m c]).run Try.prog w = .ok (.slice A' (n + m) c') w' ∧ LOwn w' base A' (n + m) c' (fs ++ fs') ∧ n + m ≤ c' ∧ Below base w w' := by
  obtain ⟨i, hi, hz, hsize, hby⟩ := info_parts Try.infoFl
  have hu := Try.underlying23
  have form : ∀ (v' : Value) (w' : World), w'.ownsRow base 61 3 v' (n + m) (lcells (fs ++ fs')) → ∃ A' c', v' = .slice A' (n + m) c' ∧ n + m ≤ c' := by
    intro v' w' h
    rcases h.2 with ⟨rfl, h0⟩ | ⟨g, cap, cur, rfl, _, _, hc, _⟩
    · exact ⟨none, 0, by rw [h0], by omega⟩
    · exact ⟨_, _, rfl, hc⟩
  have low : ∀ k, v.ownBlock = some k → base ≤ k := fun k e => (hown.lt k e).1
  cases A with
  | some ad =>
    obtain ⟨v', w', hrun, h2, h3, _, _⟩ := run_append_own_at (P := Try.prog) w base 23 ty 61 i _ 3 24 hu hi hz hsize hby rfl (by omega) v n _ hown ad m c (lcells fs') (by rw [lcells_len, hm]) hr.cells (lcells_one fs') (by unfold maxLen; omega) (by omega) hbase
    rw [← lcells_app] at h2
    obtain ⟨A', c', rfl, hc'⟩ := form v' w' h2
    exact ⟨A', c', w', hrun, h2, hc', (Below.refl _ _).grown h3 hbase low⟩
  | none =>
    obtain rfl : fs' = [] := by
      rcases hr with rfl | ⟨ad, e', _⟩
      · rfl
      · cases e'
    obtain rfl : m = 0 := hm.symm
    have hrun : (Builtin.append_ #[23, 23] ty #[v, .slice none 0 c]).run Try.prog w = .ok v w := by
      rcases hown.2 with ⟨rfl, rfl⟩ | ⟨g, cap, cur, rfl, _, _, hnc, _⟩
      · simp [Builtin.append_, run_underlying hu, sizeOf, typeInfo, hi, Builtin.lenOf, Builtin.firstCells]
      · simp [Builtin.append_, run_underlying hu, sizeOf, typeInfo, hi, Builtin.lenOf, Builtin.firstCells, hnc, storeCells]
    have h2 : w.ownsRow base 61 3 v (n + 0) (lcells (fs ++ [])) := by simpa using hown
    obtain ⟨A', c', rfl, hc'⟩ := form v w h2
    exact ⟨A', c', w, hrun, h2, hc', Below.refl _ _⟩

theorem wpList_append_fl (w : World) {ops : Array Oper} {rest : List Oper} {o : Oper} {a : Act} {Q : Exit → Act → World → Prop} (hw : Region.wanted o (yielded ops a.tmps) = true) (s x : Operand)
    (ho : o.op = .call { callee := .builtin .append, args := #[s, x], argTypes := #[23, 23] })
    (base : Nat) (v : Value) (n : Nat) (fs : List FL) (hs : a.eval s = v) (hown : w.ownsRow base 61 3 v n (lcells fs))
    (A : Option Addr) (m c B : Nat) (fs' : List FL) (hx : a.eval x = .slice A m c) (hm : fs'.length = m) (hr : LRow w B A fs')
    (h63 : n + m ≤ 1000) (hbase : base ≤ w.heap.size)
    (h : ∀ A' c' w', LOwn w' base A' (n + m) c' (fs ++ fs') → n + m ≤ c' → Below base w w' → wpList Try.prog ops Q rest (a.put o.dst (.slice A' (n + m) c')) w') : wpList Try.prog ops Q (o :: rest) a w := by
  obtain ⟨A', c', w', hrun, h2, hc', h3⟩ := run_append_fl w base o.type v n fs hown A m c B fs' hm hr h63 hbase
  unfold wpList
  rw [if_pos hw]
  left
  unfold Oper.wp execOp
  simp only [ho, resolve, invoke, builtin, Sem.run_bind, Sem.run_pure, Result.andThen_ok, List.map_toArray, List.map_cons, List.map_nil, hs, hx, hrun]
  exact h A' c' w' h2 hc' h3

/-- Filters, written out in the text. -/
theorem LRow.lit (W : World) (fs : List FL) {k : Nat} {cs : Array Value} (hcs : cs = (lcells fs).toArray) (hk : k = W.heap.size) : LRow (W.alloc (.cells cs 61)) (W.alloc (.cells cs 61)).heap.size (some ⟨k, 0, none⟩) fs := by
  subst hk hcs
  refine LRow.of_cells (by simp) fun j u hu => ?_
  rw [add0]
  have hb := World.alloc_heap_new W (.cells (lcells fs).toArray 61)
  simp only [World.cell?, hb]
  simpa using hu

theorem LRow.lit1 (W : World) (f : FL) {k : Nat} (hk : k = W.heap.size) : LRow (W.alloc (.cells #[.bool f.x, .int .i64 f.k, .int .i64 f.m] 61)) (W.alloc (.cells #[.bool f.x, .int .i64 f.k, .int .i64 f.m] 61)).heap.size (some ⟨k, 0, none⟩) [f] := LRow.lit W [f] rfl hk

theorem lown_empty (W : World) (base g : Nat) (hg : g = W.heap.size) (hb : base ≤ W.heap.size) : LOwn (W.alloc (.cells #[] 61)) base (some ⟨g, 0, none⟩) 0 0 [] := by
  subst hg
  exact ⟨rfl, .inr ⟨W.heap.size, 0, _, rfl, hb, World.alloc_heap_new _ _, Nat.zero_le _, by decide, by simp, by simp [lcells]⟩⟩

theorem lown_one (W : World) (base : Nat) (f : FL) {g : Nat} (hg : g = W.heap.size) (hb : base ≤ W.heap.size) : LOwn (W.alloc (.cells #[.bool f.x, .int .i64 f.k, .int .i64 f.m] 61)) base (some ⟨g, 0, none⟩) 1 1 [f] := by
  subst hg
  exact ⟨rfl, .inr ⟨W.heap.size, 1, _, rfl, hb, World.alloc_heap_new _ _, Nat.le_refl _, by unfold maxLen; omega, by simp, by simp [lcells, FL.cs]⟩⟩

def anyV (fs : List FL) (x : Bool) (i : Int) : Bool := fs.isEmpty || fs.any (takesV · x i)

def goodV (fs : List FL) : Bool := fs.all refRightP

def noneUpto (fs : List FL) (x : Bool) (i : Int) (k : Nat) : Prop := ∀ j f, j < k → fs[j]? = some f → takesV f x i = false

theorem noneUpto.next {fs : List FL} {x : Bool} {i : Int} {k : Nat} (h : noneUpto fs x i k) {f : FL} (hf : fs[k]? = some f) (ht : takesV f x i = false) : noneUpto fs x i (k + 1) := by
  intro j g hj hg
  by_cases hjk : j < k
  · exact h j g hjk hg
  · obtain rfl : j = k := by omega
    rw [hf] at hg
    obtain rfl := Option.some.inj hg
    exact ht

theorem noneUpto.all {fs : List FL} {x : Bool} {i : Int} (h : noneUpto fs x i fs.length) : fs.any (takesV · x i) = false := by
  rw [List.any_eq_false]
  intro f hf
  obtain ⟨j, hj, e⟩ := List.getElem_of_mem hf
  have := h j f hj (by rw [List.getElem?_eq_getElem hj, e])
  simp [this]

theorem any_at {fs : List FL} {x : Bool} {i : Int} {k : Nat} {f : FL} (hf : fs[k]? = some f) (ht : takesV f x i = true) : fs.any (takesV · x i) = true := by
  rw [List.any_eq_true]
  exact ⟨f, List.mem_of_getElem? hf, ht⟩

set_option maxRecDepth 100000 in
set_option maxHeartbeats 2000000 in
theorem any1_any (f : FL) (g : FV) (X : Nat) (w : World) (hX : HasF w X g) (q : Bool) (hq : takesV f g.x g.i = q) :
    Calls Try.prog 73 #[f.v, .pointer (some ⟨X, 0, none⟩)] w fun e w' => e = .returned (.bool q) ∧ Below w.heap.size w w' := by
  have Hq := Lib.hid hq
  clear hq
  obtain ⟨w0, hw0⟩ : ∃ w0, w.alloc (.cells #[.bool f.x, .int .i64 f.k, .int .i64 f.m] 61) = w0 := ⟨_, rfl⟩
  have hT0 : Below w.heap.size w w0 := by rw [← hw0]; exact below_alloc1 _ _
  have hA0 : HasL w0 w.heap.size f := by rw [← hw0]; exact World.alloc_heap_new _ _
  have hX0 : HasF w0 X g := block_below hT0 hX
  obtain ⟨a0, a1, a2⟩ := cells3' hA0
  obtain ⟨b0, b1, b2, b3, b4⟩ := cells5' hX0
  go_enter Try.func73, Try.ntmps73
  go_wp2_with (first | (go_at_call 74; refine (takes_any f g _).mono ?_; rw [Hq.out]; rintro e w1 ⟨rfl, hB1⟩) | fail)
  go_ret
  exact ⟨rfl, below_then hT0 hB1⟩

abbrev clos (X : Nat) : Value := .func (.func 73) #[] #[.pointer (some ⟨X, 0, none⟩)]

set_option maxRecDepth 100000 in
set_option maxHeartbeats 2000000 in
theorem index_any (fs : List FL) (g : FV) (X n : Nat) (hn : fs.length = n) (A : Option Addr) (c : Nat) (w : World) (h : LRow w w.heap.size A fs) (hX : HasF w X g) (hm : n ≤ 1000) :
    Calls Try.prog 76 #[.slice A n c, clos X] w fun e w' => ∃ z : Int, e = .returned (.int .i64 z) ∧ decide (0 ≤ z) = fs.any (takesV · g.x g.i) ∧ Below w.heap.size w w' := by
  have Hn := Lib.hid hn
  clear hn
  go_enter Try.func76, Try.ntmps76
  go_wp2_with fail
  go_loopw [8] (fun i wr => ∃ k : Nat, k ≤ n ∧ i = .int .i64 k ∧ noneUpto fs g.x g.i k ∧ Below w.heap.size w wr) (fun i _ => n - (intOf i).toNat)
  case atStart => exact ⟨0, Nat.zero_le _, rfl, fun j f hj => absurd hj (by omega), Below.refl _ _⟩
  case round =>
    obtain ⟨k, hk, rfl, hr, hB⟩ := hrel
    have Hr := Lib.hid hr
    clear hr
    by_cases hlt : k < n
    · obtain ⟨ad, f, rfl, hf, h0, h1, h2⟩ := (h.below hB).get_ (k := k) (by rw [Hn.out]; exact hlt)
      have Hf := Lib.hid hf
      clear hf
      obtain ⟨q, hq⟩ : ∃ q, takesV f g.x g.i = q := ⟨_, rfl⟩
      have Hq := Lib.hid hq
      clear hq
      have hX1 : HasF wr X g := block_below hB hX
      have HX := Lib.hid hX1
      clear hX1
      cases q
      · go_wp2_with (first | (go_at_call 73; refine (any1_any f g X _ HX.out false Hq.out).mono ?_; rintro e w1 ⟨rfl, hB1⟩) | fail)
        go_round
        case measure => simp [intOf]; omega
        exact ⟨k + 1, by omega, by go_num, Hr.out.next Hf.out Hq.out, hB.trans (hB1.mono hB.size)⟩
      · go_wp2_with (first | (go_at_call 73; refine (any1_any f g X _ HX.out true Hq.out).mono ?_; rintro e w1 ⟨rfl, hB1⟩) | fail)
        go_ret
        exact ⟨_, rfl, by rw [any_at Hf.out Hq.out]; simp, hB.trans (hB1.mono hB.size)⟩
    · obtain rfl : k = n := by omega
      go_wp2_with fail
      go_ret
      refine ⟨_, rfl, ?_, hB⟩
      rw [noneUpto.all (by rw [Hn.out]; exact Hr.out)]
      rfl

set_option maxRecDepth 100000 in
set_option maxHeartbeats 2000000 in
theorem contains_any (fs : List FL) (g : FV) (X n : Nat) (hn : fs.length = n) (A : Option Addr) (c : Nat) (w : World) (h : LRow w w.heap.size A fs) (hX : HasF w X g) (hm : n ≤ 1000) (q : Bool) (hq : fs.any (takesV · g.x g.i) = q) :
    Calls Try.prog 61 #[.slice A n c, clos X] w fun e w' => e = .returned (.bool q) ∧ Below w.heap.size w w' := by
  have Hq := Lib.hid hq
  clear hq
  go_enter Try.func61, Try.ntmps61
  go_wp2_with (first | (go_at_call 76; refine (index_any fs g X n hn A c _ h hX hm).mono ?_; rw [Hq.out]; rintro e w1 ⟨z, rfl, hz, hB1⟩) | fail)
  go_ret
  exact ⟨rfl, hB1⟩

set_option maxRecDepth 100000 in
set_option maxHeartbeats 2000000 in
theorem any_any (fs : List FL) (g : FV) (n : Nat) (hn : fs.length = n) (A : Option Addr) (c : Nat) (w : World) (h : LRow w w.heap.size A fs) (hm : n ≤ 1000) :
    Calls Try.prog 56 #[.slice A n c, g.v] w fun e w' => e = .returned (.bool (anyV fs g.x g.i)) ∧ Below w.heap.size w w' := by
  obtain ⟨w0, hw0⟩ : ∃ w0, w.alloc (.cells #[.bool g.x, .int .i64 g.i, .bool g.r, .int .i64 g.n, .slice g.a g.m g.c] 30) = w0 := ⟨_, rfl⟩
  have hT0 : Below w.heap.size w w0 := by rw [← hw0]; exact below_alloc1 _ _
  have hX0 : HasF w0 w.heap.size g := by rw [← hw0]; exact World.alloc_heap_new _ _
  have HX := Lib.hid hX0
  clear hX0
  by_cases h0 : n = 0
  · subst h0
    obtain rfl := List.eq_nil_of_length_eq_zero hn
    go_enter Try.func56, Try.ntmps56
    go_wp2_with fail
    go_ret
    exact ⟨rfl, hT0⟩
  · obtain ⟨q, hq⟩ : ∃ q, fs.any (takesV · g.x g.i) = q := ⟨_, rfl⟩
    have Hq := Lib.hid hq
    clear hq
    have hd1 : ((n : Int) == 0) = false := by simp; omega
    have hd2 : (n == 0) = false := by simp; omega
    go_enter Try.func56, Try.ntmps56
    go_wp2_with (first | (go_at_call 61; refine (contains_any fs g w.heap.size n hn A c _ (h.to hT0) HX.out hm q Hq.out).mono ?_; rintro e w1 ⟨rfl, hB1⟩) | fail)
    go_ret
    refine ⟨ret_bool ?_, below_then hT0 hB1⟩
    unfold anyV
    rw [Hq.out]
    cases fs with
    | nil => simp at hn; omega
    | cons => simp

section

variable (f g : FL) (x : FV) (fs : List FL) (w : World) (q : Bool)

theorem right_q (hq : rightP f = q) : Calls Try.prog 38 #[f.v] w fun e w' => e = .returned (.bool q) ∧ Below w.heap.size w w' := by subst hq; exact right_any f w

theorem refRight_q (hq : refRightP f = q) : Calls Try.prog 62 #[f.v] w fun e w' => e = .returned (.bool q) ∧ Below w.heap.size w w' := by subst hq; exact refRight_any f w

theorem frRight_q_NFi (hq : frRightP x = q) : Calls Try.prog 29 #[x.v] w fun e w' => e = .returned (.bool q) ∧ Below w.heap.size w w' := by subst hq; exact refFrRight_any x w

theorem takes_q (hq : takesV f x.x x.i = q) : Calls Try.prog 74 #[f.v, x.v] w fun e w' => e = .returned (.bool q) ∧ Below w.heap.size w w' := by subst hq; exact takes_any f x w

theorem refTakes_q (hq : takesV f x.x x.i = q) : Calls Try.prog 59 #[f.v, x.v] w fun e w' => e = .returned (.bool q) ∧ Below w.heap.size w w' := by subst hq; exact refTakes_any f x w

theorem any_q (n : Nat) (hn : fs.length = n) (A : Option Addr) (c : Nat) (h : LRow w w.heap.size A fs) (hm : n ≤ 1000) (hq : anyV fs x.x x.i = q) : Calls Try.prog 56 #[.slice A n c, x.v] w fun e w' => e = .returned (.bool q) ∧ Below w.heap.size w w' := by subst hq; exact any_any fs x n hn A c w h hm

end

theorem blk3_NFi (w : World) (o1 o2 o3 : Obj) : (((w.alloc o1).alloc o2).alloc o3).heap[w.heap.size + 2]? = some o3 := by
  have := World.alloc_heap_new ((w.alloc o1).alloc o2) o3
  simpa using this

theorem held_lf {w W : World} {a : Addr} {f : FL} {G : Nat} {g : FV} (h1 : LAt w a f) (ha : a.block < w.heap.size) (h2 : HasF w G g) (b : Below w.heap.size w W) :
    W.cell? a = some (.bool f.x) ∧ W.cell? ⟨a.block, a.off + 1, none⟩ = some (.int .i64 f.k) ∧ W.cell? ⟨a.block, a.off + 2, none⟩ = some (.int .i64 f.m) ∧ W.cell? ⟨G, 0, none⟩ = some (.bool g.x) ∧ W.cell? ⟨G, 1, none⟩ = some (.int .i64 g.i) ∧ W.cell? ⟨G, 2, none⟩ = some (.bool g.r) ∧ W.cell? ⟨G, 3, none⟩ = some (.int .i64 g.n) ∧ W.cell? ⟨G, 4, none⟩ = some (.slice g.a g.m g.c) := by
  obtain ⟨a0, a1, a2⟩ := h1
  obtain ⟨b0, b1, b2, b3, b4⟩ := cells5' (block_below b h2)
  exact ⟨(b.cell ha).trans a0, (b.cell (p := ⟨a.block, a.off + 1, none⟩) ha).trans a1, (b.cell (p := ⟨a.block, a.off + 2, none⟩) ha).trans a2, b0, b1, b2, b3, b4⟩

set_option maxRecDepth 100000 in
set_option maxHeartbeats 2000000 in
theorem refAny_q (fs : List FL) (g : FV) (n : Nat) (hn : fs.length = n) (A : Option Addr) (c : Nat) (w : World) (h : LRow w w.heap.size A fs) (hm : n ≤ 1000) (q : Bool) (hq : anyV fs g.x g.i = q) :
    Calls Try.prog 34 #[.slice A n c, g.v] w fun e w' => e = .returned (.bool q) ∧ Below w.heap.size w w' := by
  subst hq
  have Hn := Lib.hid hn
  clear hn
  obtain ⟨w0, hw0⟩ : ∃ w0, w.alloc (.cells #[.bool g.x, .int .i64 g.i, .bool g.r, .int .i64 g.n, .slice g.a g.m g.c] 30) = w0 := ⟨_, rfl⟩
  have hT0 : Below w.heap.size w w0 := by rw [← hw0]; exact below_alloc1 _ _
  have hX0 : HasF w0 w.heap.size g := by rw [← hw0]; exact World.alloc_heap_new _ _
  have h0 := h.to hT0
  have HX := Lib.hid hX0
  clear hX0 h
  go_enter Try.func34, Try.ntmps34
  go_wp2_with fail
  clear hw0
  go_loopw [5] (fun i wr => ∃ k : Nat, k ≤ n ∧ i = .int .i64 k ∧ noneUpto fs g.x g.i k ∧ Below w0.heap.size w0 wr) (fun i _ => n - (intOf i).toNat)
  case atStart => exact ⟨0, Nat.zero_le _, rfl, fun j f hj => absurd hj (by omega), Below.refl _ _⟩
  case round =>
    obtain ⟨k, hk, rfl, hr, hB⟩ := hrel
    have Hr := Lib.hid hr
    clear hr
    by_cases hlt : k < n
    · obtain ⟨ad, f, rfl, hf, l0, l1, l2⟩ := (h0.below hB).get_ (k := k) (by rw [Hn.out]; exact hlt)
      have hbl : ad.block < wr.heap.size := by
        have := World.block_lt_of_cell? wr _ l0
        rwa [addr_block] at this
      have Hf := Lib.hid hf
      clear hf
      obtain ⟨q, hq⟩ : ∃ q, takesV f g.x g.i = q := ⟨_, rfl⟩
      have Hq := Lib.hid hq
      clear hq
      have hX1 : HasF wr w.heap.size g := block_below hB HX.out
      have hd1 : decide ((k : Int) < (n : Int)) = true := by simp; omega
      go_wp2_with fail
      go_cut [17] from 12 to 17 (fun s wc => s = .bool q ∧ Below wr.heap.size wr wc)
      case first =>
        go_region_held3 (fun W => W.cell? (ad.add (k * 3)) = some (.bool f.x) ∧ W.cell? ⟨(ad.add (k * 3)).block, (ad.add (k * 3)).off + 1, none⟩ = some (.int .i64 f.k) ∧ W.cell? ⟨(ad.add (k * 3)).block, (ad.add (k * 3)).off + 2, none⟩ = some (.int .i64 f.m) ∧ W.cell? ⟨w.heap.size, 0, none⟩ = some (.bool g.x) ∧ W.cell? ⟨w.heap.size, 1, none⟩ = some (.int .i64 g.i) ∧ W.cell? ⟨w.heap.size, 2, none⟩ = some (.bool g.r) ∧ W.cell? ⟨w.heap.size, 3, none⟩ = some (.int .i64 g.n) ∧ W.cell? ⟨w.heap.size, 4, none⟩ = some (.slice g.a g.m g.c))
          (exact held_lf ⟨l0, l1, l2⟩ (by rw [addr_block]; exact hbl) hX1 (by repeat (first | assumption | exact Below.refl _ _ | ((with_reducible refine lit2 _ _ _ _ _ ?_); (first | (with_reducible rfl) | (simp; done))) | ((with_reducible refine lit1 _ _ _ _ ?_); (first | (with_reducible rfl) | (simp; done))) | refine row_step (by first | assumption | exact below_alloc1 _ _ | exact below_drew1 _ | exact below_drewN0 _ _) ?_ | refine block_below (by first | assumption | exact below_alloc1 _ _ | exact below_drew1 _ | exact below_drewN0 _ _) ?_ | refine below_then ?_ (by first | assumption | exact below_alloc1 _ _ | exact below_drew1 _ | exact below_drewN0 _ _))))
          (first
            | (go_at_call 74; fail)
            | (go_at_call 59; refine (refTakes_q f g _ q Hq.out).mono ?_; rintro e w1 ⟨rfl, hB1⟩)
            | fail)
        all_goals
          have hBw : Below wr.heap.size wr w1 := by repeat (first | assumption | exact Below.refl _ _ | ((with_reducible refine lit2 _ _ _ _ _ ?_); (first | (with_reducible rfl) | (simp; done))) | ((with_reducible refine lit1 _ _ _ _ ?_); (first | (with_reducible rfl) | (simp; done))) | refine row_step (by first | assumption | exact below_alloc1 _ _ | exact below_drew1 _ | exact below_drewN0 _ _) ?_ | refine block_below (by first | assumption | exact below_alloc1 _ _ | exact below_drew1 _ | exact below_drewN0 _ _) ?_ | refine below_then ?_ (by first | assumption | exact below_alloc1 _ _ | exact below_drew1 _ | exact below_drewN0 _ _))
          go_wp2_with fail
          go_meet
          exact ⟨rfl, hBw⟩
      case rest =>
      obtain ⟨rfl, hBc⟩ := hcut
      cases q
      · go_wp2_with fail
        go_round
        case measure => simp [intOf]; omega
        exact ⟨k + 1, by omega, by go_num, Hr.out.next Hf.out Hq.out, hB.trans (hBc.mono hB.size)⟩
      · go_wp2_with fail
        go_ret
        refine ⟨ret_bool ?_, below_then hT0 (hB.trans (hBc.mono hB.size))⟩
        unfold anyV
        rw [any_at Hf.out Hq.out]
        simp
    · obtain rfl : k = n := by omega
      go_wp2_with fail
      go_ret
      refine ⟨ret_bool ?_, below_then hT0 hB⟩
      unfold anyV
      rw [noneUpto.all (by rw [Hn.out]; exact Hr.out), Bool.or_false, Bool.eq_iff_iff]
      have := Hn.out
      simp [List.isEmpty_iff]
      rw [← List.length_eq_zero_iff, this]

end Go.Proofs.Ytlbgilbigcnleaa
