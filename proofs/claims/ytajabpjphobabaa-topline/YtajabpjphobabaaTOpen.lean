/-
  Frames, slices of frames, of bits, bytes, bools that came in as arguments.
-/
import Derived.Test.YtajabpjphobabaaTAu
import Derived.ProofKit
import Derived.OpenShut
import Derived.ChangeOld
import Derived.Deep.Grids
namespace Go.Proofs.Ytajabpjphobabaa
open Go.ChangeShapes Go.WideShapes Go.ChangeAt Go.RowKit
set_option linter.unusedVariables false

theorem cells_fr : Try.prog.cellsOf 24 = 5 := by kernel_rfl
theorem cells_bool : Try.prog.cellsOf 4 = 1 := by kernel_rfl
theorem cells_int : Try.prog.cellsOf 3 = 1 := by kernel_rfl
theorem cells_bytes : Try.prog.cellsOf 22 = 1 := by kernel_rfl
theorem cells_byte : Try.prog.cellsOf 5 = 1 := by kernel_rfl

theorem u8_of {z : Int} (h : (Lit.int .u8 z).wf = true) : 0 ≤ z ∧ z ≤ 255 := bounds_u8 h

instance : Inhabited FV := ⟨⟨false, 0, false, 0, none, 0, 0⟩⟩
section
variable {H : Type} {enc : TypeId × Value → H} {W : World}
theorem open_data {fuel : Nat} {v : Value} {y : DataW H × List MemPlace} (h : DataW.trod enc Try.prog W 0 (fun _ => true) true fuel 22 [v] = some y) :
    ∃ (a : Option Addr) (len cap : Nat) (dl : List Int), v = .slice a len cap ∧ dl.length = len ∧ Row .u8 W W.heap.size a dl ∧ byteB dl ∧ len ≤ cap ∧ cap ≤ maxLen := by
  rcases open_ints Try.underlying22 Try.underlying5 cells_byte h with ⟨hcs, _⟩ | ⟨x, l, c, zs, hcs, _, hl, hm, hz, _, hcell, hwz⟩
  · cases hcs
    exact ⟨none, 0, 0, [], rfl, rfl, .inl rfl, (by simp [byteB]), Nat.le_refl _, by decide⟩
  · cases hcs
    obtain ⟨dl, h1, h2, h3, h4, h5⟩ := row_of_arg (k := .u8) (w := W) (a := some x) (len := l) (cap := c) (zs := zs) (.inr ⟨x, rfl, hl, hm, by simpa using hz, hcell, hwz⟩)
    exact ⟨some x, l, c, dl, rfl, h1, h2, fun z hz => u8_of (h5 z hz), h3, h4⟩

theorem open_bytes {base : Nat} {v : Value} {d : DataW H} {p : List MemPlace} (hv : Value.okWide Try.prog W .any base 22 v) (h : DataW.Trod enc Try.prog W 0 (fun _ => true) true 22 v d p) :
    ∃ (a : Option Addr) (len cap : Nat) (dl : List Int), v = .slice a len cap ∧ dl.length = len ∧ Row .u8 W W.heap.size a dl ∧ byteB dl ∧ len ≤ cap ∧ cap ≤ maxLen := by
  obtain ⟨a, len, cap, rfl⟩ := okWide_slice Try.underlying22 hv
  obtain ⟨fuel, hf⟩ := h
  exact open_data (by simpa [Value.cells] using hf)
theorem open_bits {base : Nat} {v : Value} {d : DataW H} {p : List MemPlace} (hv : Value.okWide Try.prog W .any base 27 v) (h : DataW.Trod enc Try.prog W 0 (fun _ => true) true 27 v d p) :
    ∃ (a : Option Addr) (len cap : Nat) (l : List Int), v = .slice a len cap ∧ l.length = len ∧ Row .i64 W W.heap.size a l ∧ len ≤ cap ∧ cap ≤ maxLen := by
  obtain ⟨a, len, cap, rfl⟩ := okWide_slice Try.underlying27 hv
  obtain ⟨fuel, hf⟩ := h
  rcases open_ints Try.underlying27 Try.underlying3 cells_int hf with ⟨hcs, _⟩ | ⟨x, l, c, zs, hcs, _, hl, hm, hz, _, hcell, hwz⟩
  · simp [Value.cells] at hcs
    obtain ⟨rfl, rfl, rfl⟩ := hcs
    exact ⟨none, 0, 0, [], rfl, rfl, .inl rfl, Nat.le_refl _, by decide⟩
  · simp [Value.cells] at hcs
    obtain ⟨rfl, rfl, rfl⟩ := hcs
    obtain ⟨dl, h1, h2, h3, h4, _⟩ := row_of_arg (k := .i64) (w := W) (a := some x) (len := len) (cap := cap) (zs := zs) (.inr ⟨x, rfl, hl, hm, by simpa using hz, hcell, hwz⟩)
    exact ⟨some x, len, cap, dl, rfl, h1, h2, h3, h4⟩
theorem open_fr {fuel : Nat} {cs : List Value} {y : DataW H × List MemPlace} (hl : cs.length = 5) (hf : DataW.trod enc Try.prog W 0 (fun _ => true) true fuel 24 cs = some y) : ∃ f : FV, cs = f.cs ∧ FData W f := by
  match cs, hl with
  | [e0, e1, e2, e3, e4], _ =>
    obtain ⟨xs, n, _, _, _, hlen, hg⟩ := DataW.trod_struct Try.underlying24 hf
    match xs, hlen with
    | [y0, y1, y2, y3, y4], _ =>
      have g0 : DataW.trod enc Try.prog W 0 (fun _ => true) true n 4 [e0] = some y0 := by simpa [Value.cells, cells_bool] using hg 0 _ rfl
      have g1 : DataW.trod enc Try.prog W 0 (fun _ => true) true n 3 [e1] = some y1 := by simpa [Value.cells, cells_int] using hg 1 _ rfl
      have g2 : DataW.trod enc Try.prog W 0 (fun _ => true) true n 4 [e2] = some y2 := by simpa [Value.cells, cells_bool] using hg 2 _ rfl
      have g3 : DataW.trod enc Try.prog W 0 (fun _ => true) true n 3 [e3] = some y3 := by simpa [Value.cells, cells_int] using hg 3 _ rfl
      have g4 : DataW.trod enc Try.prog W 0 (fun _ => true) true n 22 [e4] = some y4 := by simpa [Value.cells, cells_bytes] using hg 4 _ rfl
      obtain ⟨x, hx, _⟩ := DataW.trod_bool Try.underlying4 g0
      obtain ⟨i, hi, _⟩ := DataW.trod_int Try.underlying3 g1
      obtain ⟨r, hr, _⟩ := DataW.trod_bool Try.underlying4 g2
      obtain ⟨m, hm, _⟩ := DataW.trod_int Try.underlying3 g3
      obtain ⟨a, len, cap, dl, hd, h1, h2, h3, h4, h5⟩ := open_data g4
      cases hx; cases hi; cases hr; cases hm; cases hd
      exact ⟨⟨x, i, r, m, a, len, cap⟩, rfl, Nat.le_trans h4 h5, h4, dl, h1, h2⟩
theorem open_frame6 {base : Nat} {v : Value} {d : DataW H} {p : List MemPlace} (hv : Value.okWide Try.prog W .any base 24 v) (h : DataW.Trod enc Try.prog W 0 (fun _ => true) true 24 v d p) :
    ∃ f : FV, v = f.v ∧ FData W f := by
  obtain ⟨cs, rfl, hsz⟩ := okWide_struct Try.underlying24 hv
  obtain ⟨l⟩ := cs
  obtain ⟨fuel, hf⟩ := h
  obtain ⟨f, h1, h2⟩ := open_fr (cs := l) (by simpa using hsz.trans cells_fr) (by simpa [Value.cells] using hf)
  subst h1
  exact ⟨f, rfl, h2⟩
theorem open_frames {base : Nat} {v : Value} {d : DataW H} {p : List MemPlace} (hv : Value.okWide Try.prog W .any base 36 v) (h : DataW.Trod enc Try.prog W 0 (fun _ => true) true 36 v d p) :
    ∃ (a : Option Addr) (len cap : Nat) (fs : List FV), v = .slice a len cap ∧ fs.length = len ∧ FRow W W.heap.size a fs ∧ (∀ f ∈ fs, FData W f) ∧ len ≤ cap ∧ cap ≤ maxLen := by
  obtain ⟨a, len, cap, rfl⟩ := okWide_slice Try.underlying36 hv
  obtain ⟨fuel, hf⟩ := h
  rcases Go.Deep.open_slice Try.underlying36 hf with ⟨hcs, _⟩ | ⟨x, l, c, m, n, D, Pl, hcs, _, hl, hm, hmm, _, hx⟩
  · simp [Value.cells] at hcs
    obtain ⟨rfl, rfl, rfl⟩ := hcs
    exact ⟨none, 0, 0, [], rfl, rfl, .inl rfl, by simp, Nat.le_refl _, by decide⟩
  · simp [Value.cells] at hcs
    obtain ⟨rfl, rfl, rfl⟩ := hcs
    simp only [if_true] at hmm
    subst hmm
    rw [cells_fr] at hx
    obtain ⟨F, hF⟩ := Go.Deep.choose_lt (α := FV) (n := m) (p := fun i f => FAt W (x.add (i * 5)) f ∧ FData W f) (fun i hi => by
      obtain ⟨cs', h1, h2⟩ := hx i hi
      obtain ⟨_, hlen, hcell⟩ := World.cells?_some h1
      obtain ⟨f, rfl, hd⟩ := open_fr hlen h2
      refine ⟨f, ⟨?_, ?_, ?_, ?_, ?_⟩, hd⟩
      · have := hcell 0 (by omega)
        simpa [FV.cs, Addr.add] using this
      · have := hcell 1 (by omega)
        rw [add_pos _ 1 (by omega)] at this
        simpa [FV.cs] using this
      · have := hcell 2 (by omega)
        rw [add_pos _ 2 (by omega)] at this
        simpa [FV.cs] using this
      · have := hcell 3 (by omega)
        rw [add_pos _ 3 (by omega)] at this
        simpa [FV.cs] using this
      · have := hcell 4 (by omega)
        rw [add_pos _ 4 (by omega)] at this
        simpa [FV.cs] using this)
    refine ⟨some x, len, m, (List.range len).map F, rfl, by simp, ?_, ?_, hl, hm⟩
    · by_cases h0 : len = 0
      · left; simp [h0]
      · right
        refine ⟨x, rfl, ?_, fun k f hf => ?_⟩
        · have := World.block_lt_of_cell? W _ (hF 0 (by omega)).1.1
          rwa [addr_block] at this
        · rw [List.getElem?_map, Option.map_eq_some_iff] at hf
          obtain ⟨j, hj, rfl⟩ := hf
          have hk := (List.getElem?_eq_some_iff.1 hj).1
          rw [List.getElem?_range (by simpa using hk)] at hj
          obtain rfl := Option.some.inj hj
          exact (hF k (by simp at hk; omega)).1
    · intro f hf
      obtain ⟨j, hj, rfl⟩ := List.mem_map.1 hf
      exact (hF j (by have := List.mem_range.1 hj; omega)).2
theorem open_frame {base : Nat} {v : Value} {d : DataW H} {p : List MemPlace} (hv : Value.okWide Try.prog W .any base 24 v) (h : DataW.Trod enc Try.prog W 0 (fun _ => true) true 24 v d p) :
    ∃ (x : Bool) (i : Int) (r : Bool) (n : Int) (a : Option Addr) (len cap : Nat) (dl : List Int), v = .agg #[.bool x, .int .i64 i, .bool r, .int .i64 n, .slice a len cap] ∧ dl.length = len ∧ Row .u8 W W.heap.size a dl ∧ byteB dl ∧ len ≤ cap ∧ cap ≤ maxLen := by
  obtain ⟨cs, rfl, hsz⟩ := okWide_struct Try.underlying24 hv
  obtain ⟨l⟩ := cs
  match l, hsz.trans cells_fr with
  | [e0, e1, e2, e3, e4], _ =>
    obtain ⟨fuel, hf⟩ := h
    obtain ⟨xs, n, _, _, _, hlen, hg⟩ := DataW.trod_struct Try.underlying24 hf
    match xs, hlen with
    | [y0, y1, y2, y3, y4], _ =>
      have g0 : DataW.trod enc Try.prog W 0 (fun _ => true) true n 4 [e0] = some y0 := by simpa [Value.cells, cells_bool] using hg 0 _ rfl
      have g1 : DataW.trod enc Try.prog W 0 (fun _ => true) true n 3 [e1] = some y1 := by simpa [Value.cells, cells_int] using hg 1 _ rfl
      have g2 : DataW.trod enc Try.prog W 0 (fun _ => true) true n 4 [e2] = some y2 := by simpa [Value.cells, cells_bool] using hg 2 _ rfl
      have g3 : DataW.trod enc Try.prog W 0 (fun _ => true) true n 3 [e3] = some y3 := by simpa [Value.cells, cells_int] using hg 3 _ rfl
      have g4 : DataW.trod enc Try.prog W 0 (fun _ => true) true n 22 [e4] = some y4 := by simpa [Value.cells, cells_bytes] using hg 4 _ rfl
      obtain ⟨x, hx, _⟩ := DataW.trod_bool Try.underlying4 g0
      obtain ⟨i, hi, _⟩ := DataW.trod_int Try.underlying3 g1
      obtain ⟨r, hr, _⟩ := DataW.trod_bool Try.underlying4 g2
      obtain ⟨m, hm, _⟩ := DataW.trod_int Try.underlying3 g3
      obtain ⟨a, len, cap, dl, hd, h1, h2, h3, h4, h5⟩ := open_data g4
      cases hx; cases hi; cases hr; cases hm; cases hd
      exact ⟨x, i, r, m, a, len, cap, dl, rfl, h1, h2, h3, h4, h5⟩
end

end Go.Proofs.Ytajabpjphobabaa
