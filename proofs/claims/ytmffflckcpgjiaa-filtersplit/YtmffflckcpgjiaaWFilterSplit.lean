/-
  FilterSplit.
-/
import Derived.Test.YtmffflckcpgjiaaFilLaw
import Derived.Test.YtmffflckcpgjiaaHead7
import Derived.Test.YtmffflckcpgjiaaWFilterSplitFalse
import Derived.Test.YtmffflckcpgjiaaWFilterSplitTrue
namespace Go.Proofs.Ytmffflckcpgjiaa
open Go.RowKit
set_option linter.unusedVariables false
set_option linter.unusedSimpArgs false

theorem filterSplit_any (f : FL) (x : FV) (hx : x.m ≤ maxLen) (T : Nat) (hT : T < 256) (w : World) :
    Calls Try.prog 9 #[f.v, x.v, .int .u8 T] w fun e w' => e = .returned (.bool true) ∧ Below w.heap.size w w' := by
  obtain ⟨fx, fk, fm⟩ := f
  obtain ⟨xx, xi, xr, xn, xa, xm, xc⟩ := x
  cases fx
  · exact filterSplit_false fk fm xi xr xn xa xm xc hx xx T hT w
  · exact filterSplit_true fk fm xi xr xn xa xm xc hx xx T hT w

end Go.Proofs.Ytmffflckcpgjiaa
