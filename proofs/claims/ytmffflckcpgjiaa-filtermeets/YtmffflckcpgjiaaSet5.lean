/-
  A frame, or a filter's mask, stored over one that lies in a box.
-/
import Derived.Test.YtmffflckcpgjiaaFil0
namespace Go.Proofs.Ytmffflckcpgjiaa
open Go.RowKit
set_option linter.unusedVariables false

theorem grown_setAt (w : World) (F i : Nat) (v : Value) : w.grownBy (w.setCell ⟨F, i, none⟩ v) (some F) :=
  ⟨rfl, rfl, rfl, by simp [World.setCell], fun k _ hk => Below.heap_setCell _ _ _ k (fun e => hk (by simp at e; rw [e]))⟩
theorem below_grownF {w0 w w' : World} {F : Nat} (b : Below w0.heap.size w0 w) (g : w.grownBy w' (some F)) (hF : w0.heap.size ≤ F) : Below w0.heap.size w0 w' :=
  ⟨g.os.trans b.os, g.tape.trans b.tape, g.output.trans b.output, Nat.le_trans b.size g.size, fun k hk => (g.block k (Nat.lt_of_lt_of_le hk b.size) (by simp; omega)).trans (b.block k hk)⟩
theorem other_grownF {w w' : World} {F G : Nat} {o : Obj} (g : w.grownBy w' (some F)) (h : w.heap[G]? = some o) (hne : G ≠ F) : w'.heap[G]? = some o :=
  (g.block G (Array.getElem?_eq_some_iff.1 h).1 (by simpa using hne)).trans h
/-- A frame stored over one. -/
def set5 (w : World) (F : Nat) (a b c d e : Value) : World := ((((w.setCell ⟨F, 0, none⟩ a).setCell ⟨F, 1, none⟩ b).setCell ⟨F, 2, none⟩ c).setCell ⟨F, 3, none⟩ d).setCell ⟨F, 4, none⟩ e
theorem set5_obj {w : World} {F : Nat} {a b c d e : Value} {t : TypeId} (h : w.heap[F]? = some (.cells #[a, b, c, d, e] t)) (a' b' c' d' e' : Value) :
    (set5 w F a' b' c' d' e').heap[F]? = some (.cells #[a', b', c', d', e'] t) := by
  simp [set5, World.setCell, Array.getElem?_modify, h]
theorem set5_grown (w : World) (F : Nat) (a b c d e : Value) : w.grownBy (set5 w F a b c d e) (some F) :=
  ((((grown_setAt w F 0 a).trans (grown_setAt _ F 1 b)).trans (grown_setAt _ F 2 c)).trans (grown_setAt _ F 3 d)).trans (grown_setAt _ F 4 e)
/-- The second field stored. -/
theorem set1_obj3 {w : World} {F : Nat} {a b c : Value} {t : TypeId} (h : w.heap[F]? = some (.cells #[a, b, c] t)) (b' : Value) :
    (w.setCell ⟨F, 1, none⟩ b').heap[F]? = some (.cells #[a, b', c] t) := by
  simp [World.setCell, Array.getElem?_modify, h]
theorem set01_obj5 {w : World} {F : Nat} {a b c d e : Value} {t : TypeId} (h : w.heap[F]? = some (.cells #[a, b, c, d, e] t)) (a' b' : Value) :
    ((w.setCell ⟨F, 0, none⟩ a').setCell ⟨F, 1, none⟩ b').heap[F]? = some (.cells #[a', b', c, d, e] t) := by
  simp [World.setCell, Array.getElem?_modify, h]

end Go.Proofs.Ytmffflckcpgjiaa
