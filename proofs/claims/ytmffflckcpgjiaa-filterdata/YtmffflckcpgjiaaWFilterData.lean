/-
  FilterData.
-/
import Derived.Test.YtmffflckcpgjiaaFilLaw
import Derived.Test.YtmffflckcpgjiaaHead7
import Derived.Test.YtmffflckcpgjiaaWFilterDataFalse
import Derived.Test.YtmffflckcpgjiaaWFilterDataTrue
namespace Go.Proofs.Ytmffflckcpgjiaa
open Go.RowKit
set_option linter.unusedVariables false
set_option linter.unusedSimpArgs false

theorem filterData_any (f : FL) (x y : FV) (hx : x.m ≤ maxLen) (hy : y.m ≤ maxLen) (w : World) :
    Calls Try.prog 8 #[f.v, x.v, y.v] w fun e w' => e = .returned (.bool true) ∧ Below w.heap.size w w' := by
  obtain ⟨xx, xi, xr, xn, xa, xm, xc⟩ := x
  obtain ⟨yx, yi, yr, yn, ya, ym, yc⟩ := y
  cases xx <;> cases yx
  · exact filterData_false_false f xi xr xn xa xm xc hx yi yr yn ya ym yc hy w
  · exact filterData_false_true f xi xr xn xa xm xc hx yi yr yn ya ym yc hy w
  · exact filterData_true_false f xi xr xn xa xm xc hx yi yr yn ya ym yc hy w
  · exact filterData_true_true f xi xr xn xa xm xc hx yi yr yn ya ym yc hy w

end Go.Proofs.Ytmffflckcpgjiaa
