/-
  Counters and slices of whole numbers that came in as arguments.
-/
import Derived.Test.YtbkldbckcnnafaaCnt0
import Derived.ProofKit
import Derived.OpenShut
import Derived.ChangeOld
import Derived.Deep.Grids
namespace Go.Proofs.Ytbkldbckcnnafaa
open Go.ChangeShapes Go.WideShapes Go.ChangeAt Go.RowKit
set_option linter.unusedVariables false

theorem cells_c : Try.prog.cellsOf 23 = 4 := by kernel_rfl
theorem cells_int : Try.prog.cellsOf 3 = 1 := by kernel_rfl

section
variable {H : Type} {enc : TypeId × Value → H} {W : World}
theorem open_counter {base : Nat} {v : Value} {d : DataW H} {p : List MemPlace} (hv : Value.okWide Try.prog W .any base 23 v) (h : DataW.Trod enc Try.prog W 0 (fun _ => true) true 23 v d p) :
    ∃ c : CV, v = c.v := by
  obtain ⟨cs, rfl, hsz⟩ := okWide_struct Try.underlying23 hv
  obtain ⟨l⟩ := cs
  obtain ⟨fuel, hf⟩ := h
  have hf' : DataW.trod enc Try.prog W 0 (fun _ => true) true fuel 23 l = some (d, p) := by simpa [Value.cells] using hf
  have hl : l.length = 4 := by simpa using hsz.trans cells_c
  match l, hl, hf' with
  | [e0, e1, e2, e3], _, hf' =>
    obtain ⟨xs, n, _, _, _, hlen, hg⟩ := DataW.trod_struct Try.underlying23 hf'
    match xs, hlen with
    | [y0, y1, y2, y3], _ =>
      have g0 : DataW.trod enc Try.prog W 0 (fun _ => true) true n 3 [e0] = some y0 := by simpa [Value.cells, cells_int] using hg 0 _ rfl
      have g1 : DataW.trod enc Try.prog W 0 (fun _ => true) true n 3 [e1] = some y1 := by simpa [Value.cells, cells_int] using hg 1 _ rfl
      have g2 : DataW.trod enc Try.prog W 0 (fun _ => true) true n 3 [e2] = some y2 := by simpa [Value.cells, cells_int] using hg 2 _ rfl
      have g3 : DataW.trod enc Try.prog W 0 (fun _ => true) true n 3 [e3] = some y3 := by simpa [Value.cells, cells_int] using hg 3 _ rfl
      obtain ⟨t, ht, _⟩ := DataW.trod_int Try.underlying3 g0
      obtain ⟨r, hr, _⟩ := DataW.trod_int Try.underlying3 g1
      obtain ⟨s, hs, _⟩ := DataW.trod_int Try.underlying3 g2
      obtain ⟨q, hq, _⟩ := DataW.trod_int Try.underlying3 g3
      cases ht; cases hr; cases hs; cases hq
      exact ⟨⟨t, r, s, q⟩, rfl⟩
theorem open_bits {base : Nat} {v : Value} {d : DataW H} {p : List MemPlace} (hv : Value.okWide Try.prog W .any base 24 v) (h : DataW.Trod enc Try.prog W 0 (fun _ => true) true 24 v d p) :
    ∃ (a : Option Addr) (len cap : Nat) (l : List Int), v = .slice a len cap ∧ l.length = len ∧ Row .i64 W W.heap.size a l ∧ len ≤ cap ∧ cap ≤ maxLen := by
  obtain ⟨a, len, cap, rfl⟩ := okWide_slice Try.underlying24 hv
  obtain ⟨fuel, hf⟩ := h
  rcases open_ints Try.underlying24 Try.underlying3 cells_int hf with ⟨hcs, _⟩ | ⟨x, l, c, zs, hcs, _, hl, hm, hz, _, hcell, hwz⟩
  · simp [Value.cells] at hcs
    obtain ⟨rfl, rfl, rfl⟩ := hcs
    exact ⟨none, 0, 0, [], rfl, rfl, .inl rfl, Nat.le_refl _, by decide⟩
  · simp [Value.cells] at hcs
    obtain ⟨rfl, rfl, rfl⟩ := hcs
    obtain ⟨dl, h1, h2, h3, h4, _⟩ := row_of_arg (k := .i64) (w := W) (a := some x) (len := len) (cap := cap) (zs := zs) (.inr ⟨x, rfl, hl, hm, by simpa using hz, hcell, hwz⟩)
    exact ⟨some x, len, cap, dl, rfl, h1, h2, h3, h4⟩
end

end Go.Proofs.Ytbkldbckcnnafaa
