/-
  Frames and filters as they lie in memory; what lay below lies so: no function of the program's.
-/
import Derived.WalkKit
import Derived.WalkSpells
import Derived.WalkLawsBesides
import Derived.Deep.QuietTactic
import Derived.BigQuiet
import Derived.Deep.Draws
import Derived.Lib.Hide
import Derived.Laws.BitsAllLaws
import Derived.Laws.BitsLemmas
import Derived.Maps.AppendAt
import Derived.OwnWalk
import Derived.Below
import Derived.RangeFuncBox
import Derived.Deep.RegionHeld3
import Derived.Deep.CutRange
import Derived.Deep.OwnRows
import Derived.Lib.JoinLaws
import Derived.Test.YtmffflckcpgjiaaProg
namespace Go.Proofs.Ytmffflckcpgjiaa
open Go.RowKit
set_option linter.unusedVariables false

theorem dec (p : Prop) [Decidable p] : (decide p = true ∧ p) ∨ (decide p = false ∧ ¬ p) := by
  by_cases h : p <;> simp [h]
theorem ret_bool {a b : Bool} (h : a = b) : Ending.returned (.bool a) = .returned (.bool b) := by rw [h]
theorem ret_int {k : IntKind} {a b : Int} (h : a = b) : Ending.returned (.int k a) = .returned (.int k b) := by rw [h]
theorem addr_block (a : Addr) (n : Nat) : (a.add n).block = a.block := by unfold Addr.add; split <;> rfl
theorem addr_add (a : Addr) (i j : Nat) : (a.add i).add j = a.add (i + j) := by
  unfold Addr.add
  by_cases hi : i = 0 <;> by_cases hj : j = 0 <;> simp [hi, hj, Nat.add_assoc]
theorem add_pos (a : Addr) (i : Nat) (h : 0 < i) : a.add i = ⟨a.block, a.off + i, none⟩ := by
  unfold Addr.add
  split
  · omega
  · rfl
theorem add0 (g k : Nat) : (⟨g, 0, none⟩ : Addr).add k = ⟨g, k, none⟩ := by unfold Addr.add; split <;> simp_all

theorem below_drewN' {B : Nat} {a w : World} (h : Below B a w) (n : Nat) : Below B a (w.drewN n) := ⟨h.os, h.tape, h.output, h.size, h.block⟩
/-- One behind the other. -/
theorem below_then {a b c : World} (h : Below a.heap.size a b) (k : Below b.heap.size b c) : Below a.heap.size a c := h.trans (k.mono h.size)
theorem below_drewN0 (a : World) (n : Nat) : Below a.heap.size a (a.drewN n) := below_drewN' (Below.refl _ _) n
theorem below_alloc1 (w : World) (o : Obj) : Below w.heap.size w (w.alloc o) := (Below.refl _ w).alloc (Nat.le_refl _) o
theorem below_drew1 (w : World) : Below w.heap.size w w.drew := (Below.refl _ w).drew
theorem block_below {w w' : World} {F : Nat} {o : Obj} (b : Below w.heap.size w w') (h : w.heap[F]? = some o) : w'.heap[F]? = some o :=
  (b.block F (Array.getElem?_eq_some_iff.1 h).1).trans h

/-- The three cells of a filter that lies in a block. -/
theorem cells3 {w : World} {F : Nat} {a b c : Value} {t : TypeId} (h : w.heap[F]? = some (.cells #[a, b, c] t)) :
    (w.cell? ⟨F, 0, none⟩ = some a ∧ w.cell? ⟨F, 1, none⟩ = some b ∧ w.cell? ⟨F, 2, none⟩ = some c) ∧
    w.frozen? ⟨F, 0, none⟩ = false ∧ w.frozen? ⟨F, 1, none⟩ = false ∧ w.frozen? ⟨F, 2, none⟩ = false := by
  simp [World.cell?, World.frozen?, h]
theorem cells3' {w : World} {F : Nat} {a b c : Value} {t : TypeId} (h : w.heap[F]? = some (.cells #[a, b, c] t)) :
    w.cell? ⟨F, 0, none⟩ = some a ∧ w.cell? ⟨F, 1, none⟩ = some b ∧ w.cell? ⟨F, 2, none⟩ = some c := (cells3 h).1
/-- The five cells of a frame that lies in a block. -/
theorem cells5 {w : World} {F : Nat} {a b c d e : Value} {t : TypeId} (h : w.heap[F]? = some (.cells #[a, b, c, d, e] t)) :
    (w.cell? ⟨F, 0, none⟩ = some a ∧ w.cell? ⟨F, 1, none⟩ = some b ∧ w.cell? ⟨F, 2, none⟩ = some c ∧ w.cell? ⟨F, 3, none⟩ = some d ∧ w.cell? ⟨F, 4, none⟩ = some e) ∧
    w.frozen? ⟨F, 0, none⟩ = false ∧ w.frozen? ⟨F, 1, none⟩ = false ∧ w.frozen? ⟨F, 2, none⟩ = false ∧ w.frozen? ⟨F, 3, none⟩ = false ∧ w.frozen? ⟨F, 4, none⟩ = false := by
  simp [World.cell?, World.frozen?, h]
theorem cells5' {w : World} {F : Nat} {a b c d e : Value} {t : TypeId} (h : w.heap[F]? = some (.cells #[a, b, c, d, e] t)) :
    w.cell? ⟨F, 0, none⟩ = some a ∧ w.cell? ⟨F, 1, none⟩ = some b ∧ w.cell? ⟨F, 2, none⟩ = some c ∧ w.cell? ⟨F, 3, none⟩ = some d ∧ w.cell? ⟨F, 4, none⟩ = some e := (cells5 h).1

/-- A frame as it lies in memory. -/
structure FV where
  x : Bool
  i : Int
  r : Bool
  n : Int
  a : Option Addr
  m : Nat
  c : Nat
abbrev FV.v (f : FV) : Value := .agg #[.bool f.x, .int .i64 f.i, .bool f.r, .int .i64 f.n, .slice f.a f.m f.c]
/-- A filter as it lies in memory. -/
structure FL where
  x : Bool
  k : Int
  m : Int
deriving DecidableEq
abbrev FL.v (f : FL) : Value := .agg #[.bool f.x, .int .i64 f.k, .int .i64 f.m]
def FL.cs (f : FL) : List Value := [.bool f.x, .int .i64 f.k, .int .i64 f.m]
/-- A filter lies in block F; a frame does. -/
abbrev HasL (w : World) (F : Nat) (f : FL) : Prop := w.heap[F]? = some (.cells #[.bool f.x, .int .i64 f.k, .int .i64 f.m] 23)
abbrev HasF (w : World) (F : Nat) (f : FV) : Prop := w.heap[F]? = some (.cells #[.bool f.x, .int .i64 f.i, .bool f.r, .int .i64 f.n, .slice f.a f.m f.c] 27)

abbrev CL (W : World) (F : Nat) (f : FL) : Prop := W.cell? ⟨F, 0, none⟩ = some (.bool f.x) ∧ W.cell? ⟨F, 1, none⟩ = some (.int .i64 f.k) ∧ W.cell? ⟨F, 2, none⟩ = some (.int .i64 f.m)
abbrev CF (W : World) (F : Nat) (f : FV) : Prop := W.cell? ⟨F, 0, none⟩ = some (.bool f.x) ∧ W.cell? ⟨F, 1, none⟩ = some (.int .i64 f.i) ∧ W.cell? ⟨F, 2, none⟩ = some (.bool f.r) ∧ W.cell? ⟨F, 3, none⟩ = some (.int .i64 f.n) ∧ W.cell? ⟨F, 4, none⟩ = some (.slice f.a f.m f.c)
theorem HasL.cl {w : World} {F : Nat} {f : FL} (h : HasL w F f) : CL w F f := cells3' h
theorem HasF.cf {w : World} {F : Nat} {f : FV} (h : HasF w F f) : CF w F f := cells5' h
theorem load_fr {w : World} {F : Nat} {f : FV} (h : HasF w F f) : (loadVar 27 ⟨F, 0, none⟩).run Try.prog w = .ok f.v w := by
  obtain ⟨⟨c0, c1, c2, c3, c4⟩, _⟩ := cells5 h
  simp [go_sem, c0, c1, c2, c3, c4]
theorem results_fr {fn : Func} {p : Tmp} (hf : fn.results = #[.cell p 27]) (tmps : Array Value) {w : World} {F : Nat} {f : FV} (ht : tmps.getD p undef = .pointer (some ⟨F, 0, none⟩)) (h : HasF w F f) :
    (results fn tmps).run Try.prog w = .ok f.v w := by
  have hl := load_fr h
  have ht' : tmps[p]?.getD undef = .pointer (some ⟨F, 0, none⟩) := by simpa using ht
  simp only [results, hf]
  simp [ht', asAddr, hl]
theorem load_fl {w : World} {F : Nat} {f : FL} (h : HasL w F f) : (loadVar 23 ⟨F, 0, none⟩).run Try.prog w = .ok f.v w := by
  obtain ⟨⟨c0, c1, c2⟩, _⟩ := cells3 h
  simp [go_sem, c0, c1, c2]
theorem results_fl {fn : Func} {p : Tmp} (hf : fn.results = #[.cell p 23]) (tmps : Array Value) {w : World} {F : Nat} {f : FL} (ht : tmps.getD p undef = .pointer (some ⟨F, 0, none⟩)) (h : HasL w F f) :
    (results fn tmps).run Try.prog w = .ok f.v w := by
  have hl := load_fl h
  have ht' : tmps[p]?.getD undef = .pointer (some ⟨F, 0, none⟩) := by simpa using ht
  simp only [results, hf]
  simp [ht', asAddr, hl]

end Go.Proofs.Ytmffflckcpgjiaa
