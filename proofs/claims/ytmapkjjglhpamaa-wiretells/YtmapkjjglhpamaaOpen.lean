/-
  A frame that came in as an argument: its five parts, its data a row of bytes.
-/
import Derived.Test.YtmapkjjglhpamaaFrt
import Derived.ProofKit
import Derived.OpenShut
import Derived.ChangeOld
namespace Go.Proofs.Ytmapkjjglhpamaa
open Go.ChangeShapes Go.WideShapes Go.ChangeAt Go.RowKit

theorem cells_fr : Try.prog.cellsOf 24 = 5 := by kernel_rfl
theorem cells_bool : Try.prog.cellsOf 4 = 1 := by kernel_rfl
theorem cells_int : Try.prog.cellsOf 3 = 1 := by kernel_rfl
theorem cells_bytes : Try.prog.cellsOf 22 = 1 := by kernel_rfl
theorem cells_byte : Try.prog.cellsOf 5 = 1 := by kernel_rfl

theorem u8_of {z : Int} (h : (Lit.int .u8 z).wf = true) : 0 ≤ z ∧ z ≤ 255 := bounds_u8 h

section
variable {H : Type} {enc : TypeId × Value → H} {W : World}
theorem open_data {fuel : Nat} {v : Value} {y : DataW H × List MemPlace} (h : DataW.trod enc Try.prog W 0 (fun _ => true) true fuel 22 [v] = some y) :
    ∃ (a : Option Addr) (len cap : Nat) (dl : List Int), v = .slice a len cap ∧ dl.length = len ∧ Row .u8 W W.heap.size a dl ∧ byteB dl ∧ len ≤ cap ∧ cap ≤ maxLen := by
  rcases open_ints Try.underlying22 Try.underlying5 cells_byte h with ⟨hcs, _⟩ | ⟨x, l, c, zs, hcs, _, hl, hm, hz, _, hcell, hwz⟩
  · cases hcs
    exact ⟨none, 0, 0, [], rfl, rfl, .inl rfl, (by simp [byteB]), Nat.le_refl _, by decide⟩
  · cases hcs
    obtain ⟨dl, h1, h2, h3, h4, h5⟩ := row_of_arg (k := .u8) (w := W) (a := some x) (len := l) (cap := c) (zs := zs) (.inr ⟨x, rfl, hl, hm, by simpa using hz, hcell, hwz⟩)
    exact ⟨some x, l, c, dl, rfl, h1, h2, fun z hz => u8_of (h5 z hz), h3, h4⟩

theorem open_bytes {base : Nat} {v : Value} {d : DataW H} {p : List MemPlace} (hv : Value.okWide Try.prog W .any base 22 v) (h : DataW.Trod enc Try.prog W 0 (fun _ => true) true 22 v d p) :
    ∃ (a : Option Addr) (len cap : Nat) (dl : List Int), v = .slice a len cap ∧ dl.length = len ∧ Row .u8 W W.heap.size a dl ∧ byteB dl ∧ len ≤ cap ∧ cap ≤ maxLen := by
  obtain ⟨a, len, cap, rfl⟩ := okWide_slice Try.underlying22 hv
  obtain ⟨fuel, hf⟩ := h
  exact open_data (by simpa [Value.cells] using hf)
theorem open_bits {base : Nat} {v : Value} {d : DataW H} {p : List MemPlace} (hv : Value.okWide Try.prog W .any base 25 v) (h : DataW.Trod enc Try.prog W 0 (fun _ => true) true 25 v d p) :
    ∃ (a : Option Addr) (len cap : Nat) (l : List Int), v = .slice a len cap ∧ l.length = len ∧ Row .i64 W W.heap.size a l ∧ len ≤ cap ∧ cap ≤ maxLen := by
  obtain ⟨a, len, cap, rfl⟩ := okWide_slice Try.underlying25 hv
  obtain ⟨fuel, hf⟩ := h
  rcases open_ints Try.underlying25 Try.underlying3 cells_int hf with ⟨hcs, _⟩ | ⟨x, l, c, zs, hcs, _, hl, hm, hz, _, hcell, hwz⟩
  · simp [Value.cells] at hcs
    obtain ⟨rfl, rfl, rfl⟩ := hcs
    exact ⟨none, 0, 0, [], rfl, rfl, .inl rfl, Nat.le_refl _, by decide⟩
  · simp [Value.cells] at hcs
    obtain ⟨rfl, rfl, rfl⟩ := hcs
    obtain ⟨dl, h1, h2, h3, h4, _⟩ := row_of_arg (k := .i64) (w := W) (a := some x) (len := len) (cap := cap) (zs := zs) (.inr ⟨x, rfl, hl, hm, by simpa using hz, hcell, hwz⟩)
    exact ⟨some x, len, cap, dl, rfl, h1, h2, h3, h4⟩

theorem open_frame {base : Nat} {v : Value} {d : DataW H} {p : List MemPlace} (hv : Value.okWide Try.prog W .any base 24 v) (h : DataW.Trod enc Try.prog W 0 (fun _ => true) true 24 v d p) :
    ∃ (x : Bool) (i : Int) (r : Bool) (n : Int) (a : Option Addr) (len cap : Nat) (dl : List Int), v = .agg #[.bool x, .int .i64 i, .bool r, .int .i64 n, .slice a len cap] ∧ dl.length = len ∧ Row .u8 W W.heap.size a dl ∧ byteB dl ∧ len ≤ cap ∧ cap ≤ maxLen := by
  obtain ⟨cs, rfl, hsz⟩ := okWide_struct Try.underlying24 hv
  obtain ⟨l⟩ := cs
  match l, hsz.trans cells_fr with
  | [e0, e1, e2, e3, e4], _ =>
    obtain ⟨fuel, hf⟩ := h
    obtain ⟨xs, n, _, _, _, hlen, hg⟩ := DataW.trod_struct Try.underlying24 hf
    match xs, hlen with
    | [y0, y1, y2, y3, y4], _ =>
      have g0 : DataW.trod enc Try.prog W 0 (fun _ => true) true n 4 [e0] = some y0 := by simpa [Value.cells, cells_bool] using hg 0 _ rfl
      have g1 : DataW.trod enc Try.prog W 0 (fun _ => true) true n 3 [e1] = some y1 := by simpa [Value.cells, cells_int] using hg 1 _ rfl
      have g2 : DataW.trod enc Try.prog W 0 (fun _ => true) true n 4 [e2] = some y2 := by simpa [Value.cells, cells_bool] using hg 2 _ rfl
      have g3 : DataW.trod enc Try.prog W 0 (fun _ => true) true n 3 [e3] = some y3 := by simpa [Value.cells, cells_int] using hg 3 _ rfl
      have g4 : DataW.trod enc Try.prog W 0 (fun _ => true) true n 22 [e4] = some y4 := by simpa [Value.cells, cells_bytes] using hg 4 _ rfl
      obtain ⟨x, hx, _⟩ := DataW.trod_bool Try.underlying4 g0
      obtain ⟨i, hi, _⟩ := DataW.trod_int Try.underlying3 g1
      obtain ⟨r, hr, _⟩ := DataW.trod_bool Try.underlying4 g2
      obtain ⟨m, hm, _⟩ := DataW.trod_int Try.underlying3 g3
      obtain ⟨a, len, cap, dl, hd, h1, h2, h3, h4, h5⟩ := open_data g4
      cases hx; cases hi; cases hr; cases hm; cases hd
      exact ⟨x, i, r, m, a, len, cap, dl, rfl, h1, h2, h3, h4, h5⟩
end

end Go.Proofs.Ytmapkjjglhpamaa
