/-
  Single cells that lie still; structs that are told apart.
-/
import Derived.Test.YtbkldbckcnnafaaCnt3
namespace Go.Proofs.Ytbkldbckcnnafaa
open Go.RowKit
set_option linter.unusedVariables false

theorem cell_below {w w' : World} {a : Addr} {v : Value} (b : Below w.heap.size w w') (h : w.cell? a = some v) : w'.cell? a = some v := (b.cell (World.block_lt_of_cell? w a h)).trans h
theorem cell_set4 {w : World} {F : Nat} {a : Addr} {v : Value} (h : w.cell? a = some v) (hne : a.block ≠ F) (a' b' c' d' : Value) : (set4 w F a' b' c' d').cell? a = some v := by
  unfold set4
  rw [World.cell?_setCell_far _ _ _ _ (fun e => hne e.symm), World.cell?_setCell_far _ _ _ _ (fun e => hne e.symm), World.cell?_setCell_far _ _ _ _ (fun e => hne e.symm), World.cell?_setCell_far _ _ _ _ (fun e => hne e.symm)]
  exact h
theorem neq_c (t r s q t' r' s' q' : Int) (w : World) :
    (binOp .neq 23 (.agg #[.int .i64 t, .int .i64 r, .int .i64 s, .int .i64 q]) (.agg #[.int .i64 t', .int .i64 r', .int .i64 s', .int .i64 q'])).run Try.prog w = .ok (.bool (!sameC ⟨t, r, s, q⟩ ⟨t', r', s', q'⟩)) w := by
  rw [run_neq_struct, eqIn_c]
  rfl
theorem sameC_refl (t r s q : Int) : sameC ⟨t, r, s, q⟩ ⟨t, r, s, q⟩ = true := by simp [sameC]

end Go.Proofs.Ytbkldbckcnnafaa
